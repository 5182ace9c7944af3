/-
  The law of a list turned round, walked.
-/
import Derived.Test.YtmenhbdapikpeaaTreeLaws1
import Derived.Test.YtmenhbdapikpeaaTreeSub
namespace Go.Proofs.Ytmenhbdapikpeaa
open Go.RowKit

theorem NodeAt.all {w : World} {g : Nat} {x : NodeV} (h : NodeAt w g x) : w.rangeAt g 0 (nodeL x) := fun i v hv => by
  rw [Nat.zero_add]
  exact h.cell i v hv

set_option maxRecDepth 100000 in
set_option maxHeartbeats 8000000 in
theorem treeTurned_any (a : Option Addr) (n c : Nat) (L : List NodeV) (w : World) (h : NodesAt w a n c L) :
    Calls Try.prog 7 #[.slice a n c] w fun e w' => e = .returned (.bool true) ∧ Below w.heap.size w w' := by
  by_cases hn : (60 : Int) < (n : Int)
  · clear h
    go_enter Try.func7, Try.ntmps7
    go_wp2
    go_ret
    exact ⟨rfl, Below.refl _ _⟩
  have hn1 : n ≤ 1000 := by omega
  have hnI : (n : Int) ≤ 60 := by omega
  have HM := Lib.hid hn1
  have HL := Lib.hid h.1
  have HN := Lib.hid h
  have AW := Lib.hid (fun W => awake_any W)
  have TO := Lib.hid (told_in h hn1)
  clear h hn1
  go_enter Try.func7, Try.ntmps7
  go_wp2
  go_loopg [4, 5] n (fun g v4 v5 W => ∃ (i : Nat) (a' : Option Addr) (c' : Nat), Below w.heap.size w W ∧ v5 = .int .i64 i ∧ g + i = n ∧ v4 = .slice a' i c' ∧ Hid (OwnT 44 W w.heap.size (.slice a' i c') ((turnL L).take i)))
  case atStart => exact ⟨0, none, 0, Below.refl _ _, rfl, rfl, rfl, Lib.hid OwnT.nil⟩
  case round =>
    obtain ⟨i, a', c', hbw, rfl, hg, rfl, HO⟩ := hrel
    have HG := Lib.hid hg
    have HB := Lib.hid hbw
    have hi0 : (0 : Int) ≤ (i : Int) := by omega
    have hiI : (i : Int) ≤ (n : Int) := by omega
    by_cases hi : (i : Int) < (n : Int)
    · have hin : i < n := by omega
      have HN0 := Lib.hid (show 0 < n by omega)
      obtain ⟨q, hq⟩ : ∃ q : Nat, (n : Int) - 1 - (i : Int) = (q : Int) := ⟨n - 1 - i, by omega⟩
      have hqn : q < n := by omega
      have HQ := Lib.hid hqn
      have hq0 : (0 : Int) ≤ (q : Int) := by omega
      have hqI : (q : Int) < (n : Int) := by omega
      have HTL : Hid (i + 1 = ((turnL L).take i).length + 1) := Lib.hid (by rw [List.length_take, turnL_length, HL.out]; omega)
      have HT48 : Hid (((turnL L).take i).length + 1 ≤ 1000000000) := Lib.hid (by rw [← HTL.out]; have := HM.out; omega)
      have HTK : Hid ((turnL L).take (i + 1) = (turnL L).take i ++ [turnN n (nd L q)]) := Lib.hid (by
        rw [take_nd (by rw [turnL_length, HL.out]; exact hin), nd_turnL (by rw [HL.out]; exact hin), HL.out]
        have : n - 1 - i = q := by omega
        rw [this])
      have HSZ := Lib.hid (fun W (hb : Below wr.heap.size wr W) => Nat.le_trans HB.out.size hb.size)
      have HX := Lib.hid (HN.out.ok hqn)
      obtain ⟨X, hX⟩ : ∃ X, X = nd L q := ⟨_, rfl⟩
      have HXE := Lib.hid hX
      rw [← hX] at HX HTK
      obtain ⟨k, p, r, d⟩ := X
      clear hX hqn hin hg
      by_cases hpp : 0 ≤ (⟨k, p, r, d⟩ : NodeV).p ∧ (⟨k, p, r, d⟩ : NodeV).p < (n : Int)
      · skip
        have HXT := Lib.hid (show turnN n ⟨k, p, r, d⟩ = ⟨k, (n : Int) - 1 - p, r, d⟩ from turnN_in hpp)
        obtain ⟨hp0, hp1⟩ := hpp
        simp only at hp0 hp1
        have HX2 : Hid (NdOk ⟨k, (n : Int) - 1 - p, r, d⟩) := Lib.hid (by rw [← HXT.out]; exact turn_ok HX.out)
        go_wp2_with (first
          | (go_at_call 11; (with_reducible refine (TO.out _ HB.out).mono ?_); rintro e W1 ⟨a1, c1, rfl, hnd, hb⟩; have HW1 := Lib.hid hb; obtain ⟨b1, o1, rfl⟩ := hnd.some_ HN0.out; have HC := Lib.hid (show W1.rangeAt b1 (o1 + q * 37) (nodeL ⟨k, p, r, d⟩) by rw [HXE.out]; exact hnd.at_ q HQ.out); clear hnd hb)
          | (refine wl_ex rfl (exec_loadNode _ rfl _ _ ⟨k, p, r, d⟩ HX.out rfl HC.out) ?_)
          | (refine store_node rfl rfl _ _ rfl ⟨k, p, r, d⟩ HX.out rfl rfl ?_; intro W2 hnd hb2 hs2; have HB2 := Lib.hid (HW1.out.trans (hb2.mono HW1.out.size)); have cp := hnd.par; have hfz := hnd.frz 34; have HLD := Lib.hid ((hnd.setPar ((n : Int) - 1 - p)).all); have HB3 := Lib.hid (HB2.out.grown (grown_set W2 W1.heap.size 34 (.int .i64 ((n : Int) - 1 - p))) HB2.out.size (fun g hg => by cases hg; exact HW1.out.size)); clear hnd hb2 hs2)
          | (refine wl_ex rfl (exec_loadNode _ rfl _ _ ⟨k, (n : Int) - 1 - p, r, d⟩ HX2.out rfl HLD.out) ?_)
          | (refine wpList_plain rfl (fun K hK => wp_sl_node Try.underlying25 infoT _ rfl ⟨k, (n : Int) - 1 - p, r, d⟩ HX2.out rfl (hK _ _ ?_)))
          | (at_builtin; go_must (refine app_nodes Try.underlying25 infoT (by decide) rfl _ _ rfl w.heap.size _ ((turnL L).take i) rfl (HO.out.below ((HB3.out.alloc HB3.out.size _))) _ 1 1 [⟨k, (n : Int) - 1 - p, r, d⟩] rfl (one_node _ ⟨k, (n : Int) - 1 - p, r, d⟩ HX2.out _ _ rfl) HT48.out (HSZ.out _ ((HB3.out.alloc HB3.out.size _))) (i + 1) HTL.out ?_); intro a2 c2 W5 ho2 hg2))
        go_roundg (n - (i + 1))
        case measure => have := HG.out; omega
        case rel =>
          have hb4 := HB3.out.alloc HB3.out.size (.cells (nodeC ⟨k, (n : Int) - 1 - p, r, d⟩) 44)
          refine ⟨i + 1, a2, c2, (HB.out.trans (hb4.mono HB.out.size)).grown hg2 ?_ (fun g hg => (HO.out.lt g hg).1), by go_num, by have := HG.out; omega, rfl, Lib.hid ?_⟩
          · exact Nat.le_trans HB.out.size hb4.size
          · rw [HTK.out, HXT.out]; exact ho2
      · by_cases hp0 : 0 ≤ p
        · have hp1 : ¬ p < (n : Int) := fun h => hpp ⟨hp0, h⟩
          have HXT := Lib.hid (show turnN n ⟨k, p, r, d⟩ = ⟨k, p, r, d⟩ from turnN_out hpp)
          have HX2 : Hid (NdOk ⟨k, p, r, d⟩) := Lib.hid (by rw [← HXT.out]; exact turn_ok HX.out)
          go_wp2_with (first
            | (go_at_call 11; (with_reducible refine (TO.out _ HB.out).mono ?_); rintro e W1 ⟨a1, c1, rfl, hnd, hb⟩; have HW1 := Lib.hid hb; obtain ⟨b1, o1, rfl⟩ := hnd.some_ HN0.out; have HC := Lib.hid (show W1.rangeAt b1 (o1 + q * 37) (nodeL ⟨k, p, r, d⟩) by rw [HXE.out]; exact hnd.at_ q HQ.out); clear hnd hb)
            | (refine wl_ex rfl (exec_loadNode _ rfl _ _ ⟨k, p, r, d⟩ HX.out rfl HC.out) ?_)
            | (refine store_node rfl rfl _ _ rfl ⟨k, p, r, d⟩ HX.out rfl rfl ?_; intro W2 hnd hb2 hs2; have HB2 := Lib.hid (HW1.out.trans (hb2.mono HW1.out.size)); have cp := hnd.par; have hfz := hnd.frz 34; have HLD := Lib.hid hnd.all; have HB3 := HB2; clear hnd hb2 hs2)
            | (refine wl_ex rfl (exec_loadNode _ rfl _ _ ⟨k, p, r, d⟩ HX2.out rfl HLD.out) ?_)
            | (refine wpList_plain rfl (fun K hK => wp_sl_node Try.underlying25 infoT _ rfl ⟨k, p, r, d⟩ HX2.out rfl (hK _ _ ?_)))
            | (at_builtin; go_must (refine app_nodes Try.underlying25 infoT (by decide) rfl _ _ rfl w.heap.size _ ((turnL L).take i) rfl (HO.out.below ((HB3.out.alloc HB3.out.size _))) _ 1 1 [⟨k, p, r, d⟩] rfl (one_node _ ⟨k, p, r, d⟩ HX2.out _ _ rfl) HT48.out (HSZ.out _ ((HB3.out.alloc HB3.out.size _))) (i + 1) HTL.out ?_); intro a2 c2 W5 ho2 hg2))
          go_roundg (n - (i + 1))
          case measure => have := HG.out; omega
          case rel =>
            have hb4 := HB3.out.alloc HB3.out.size (.cells (nodeC ⟨k, p, r, d⟩) 44)
            refine ⟨i + 1, a2, c2, (HB.out.trans (hb4.mono HB.out.size)).grown hg2 ?_ (fun g hg => (HO.out.lt g hg).1), by go_num, by have := HG.out; omega, rfl, Lib.hid ?_⟩
            · exact Nat.le_trans HB.out.size hb4.size
            · rw [HTK.out, HXT.out]; exact ho2
        · skip
          have HXT := Lib.hid (show turnN n ⟨k, p, r, d⟩ = ⟨k, p, r, d⟩ from turnN_out hpp)
          have HX2 : Hid (NdOk ⟨k, p, r, d⟩) := Lib.hid (by rw [← HXT.out]; exact turn_ok HX.out)
          go_wp2_with (first
            | (go_at_call 11; (with_reducible refine (TO.out _ HB.out).mono ?_); rintro e W1 ⟨a1, c1, rfl, hnd, hb⟩; have HW1 := Lib.hid hb; obtain ⟨b1, o1, rfl⟩ := hnd.some_ HN0.out; have HC := Lib.hid (show W1.rangeAt b1 (o1 + q * 37) (nodeL ⟨k, p, r, d⟩) by rw [HXE.out]; exact hnd.at_ q HQ.out); clear hnd hb)
            | (refine wl_ex rfl (exec_loadNode _ rfl _ _ ⟨k, p, r, d⟩ HX.out rfl HC.out) ?_)
            | (refine store_node rfl rfl _ _ rfl ⟨k, p, r, d⟩ HX.out rfl rfl ?_; intro W2 hnd hb2 hs2; have HB2 := Lib.hid (HW1.out.trans (hb2.mono HW1.out.size)); have cp := hnd.par; have hfz := hnd.frz 34; have HLD := Lib.hid hnd.all; have HB3 := HB2; clear hnd hb2 hs2)
            | (refine wl_ex rfl (exec_loadNode _ rfl _ _ ⟨k, p, r, d⟩ HX2.out rfl HLD.out) ?_)
            | (refine wpList_plain rfl (fun K hK => wp_sl_node Try.underlying25 infoT _ rfl ⟨k, p, r, d⟩ HX2.out rfl (hK _ _ ?_)))
            | (at_builtin; go_must (refine app_nodes Try.underlying25 infoT (by decide) rfl _ _ rfl w.heap.size _ ((turnL L).take i) rfl (HO.out.below ((HB3.out.alloc HB3.out.size _))) _ 1 1 [⟨k, p, r, d⟩] rfl (one_node _ ⟨k, p, r, d⟩ HX2.out _ _ rfl) HT48.out (HSZ.out _ ((HB3.out.alloc HB3.out.size _))) (i + 1) HTL.out ?_); intro a2 c2 W5 ho2 hg2))
          go_roundg (n - (i + 1))
          case measure => have := HG.out; omega
          case rel =>
            have hb4 := HB3.out.alloc HB3.out.size (.cells (nodeC ⟨k, p, r, d⟩) 44)
            refine ⟨i + 1, a2, c2, (HB.out.trans (hb4.mono HB.out.size)).grown hg2 ?_ (fun g hg => (HO.out.lt g hg).1), by go_num, by have := HG.out; omega, rfl, Lib.hid ?_⟩
            · exact Nat.le_trans HB.out.size hb4.size
            · rw [HTK.out, HXT.out]; exact ho2
    · have hin : i = n := by omega
      subst hin
      have hM : Hid (OwnT 44 wr w.heap.size (.slice a' i c') (turnL L)) := Lib.hid (by
        have ho := HO.out
        rwa [List.take_of_length_le (by rw [turnL_length, HL.out]; omega)] at ho)
      have HM1 : Hid (NodesAt wr a' i c' (turnL L)) := Lib.hid (by
        have ho := hM.out.isNodes
        exact ho)
      have e0 : ((strB []).toList == (strB []).toList) = true := by simp
      by_cases hR : RightT L
      · obtain ⟨l, hl⟩ := ord_ex hR.2
        obtain ⟨m, hm⟩ := ord_ex ((sub_turn hR.2).tree hR.2)
        have RI := Lib.hid (fun a c W (h : NodesAt W a i c L) => right_any a i c L W h HM.out true ⟨fun _ => hR, fun _ => rfl⟩)
        have RM := Lib.hid (fun a c W (h : NodesAt W a i c (turnL L)) => right_any a i c (turnL L) W h HM.out true ⟨fun _ => right_turn hR, fun _ => rfl⟩)
        have TX := Lib.hid (fun a c W (h : NodesAt W a i c L) => treeText_any a i c L W h HM.out hR l hl)
        have TM := Lib.hid (fun a c W (h : NodesAt W a i c (turnL L)) => treeText_any a i c (turnL L) W h HM.out (right_turn hR) m hm)
        rw [text_turn hR.2 hl hm] at TM
        obtain ⟨s, hs⟩ : ∃ s, s = strB (textT L l) := ⟨_, rfl⟩
        rw [← hs] at TX TM
        have e1 : (s.toList == s.toList) = true := by simp
        clear hR hl hm hs hg hM
        go_wp2_with (first
      | (go_at_call 11; (with_reducible refine (TO.out _ HB.out).mono ?_); rintro e W1 ⟨a1, c1, rfl, hnd, hb⟩; have HND := Lib.hid hnd; have HB := Lib.hid (HB.out.trans (hb.mono HB.out.size)); have HM1 := Lib.hid (HM1.out.below hb); clear hb hnd)
      | (go_at_call 13; (with_reducible refine (TX.out _ _ _ HND.out).mono ?_); rintro e W1 ⟨rfl, hb⟩; have HB := Lib.hid (HB.out.trans (hb.mono HB.out.size)); have HM1 := Lib.hid (HM1.out.below hb); clear hb)
      | (go_at_call 13; (with_reducible refine (TM.out _ _ _ HM1.out).mono ?_); rintro e W1 ⟨rfl, hb⟩; have HB := Lib.hid (HB.out.trans (hb.mono HB.out.size)); have HM1 := Lib.hid (HM1.out.below hb); clear hb)
      | (go_at_call 10; (with_reducible refine (RI.out _ _ _ HND.out).mono ?_); rintro e W1 ⟨rfl, hb⟩; have HB := Lib.hid (HB.out.trans (hb.mono HB.out.size)); have HM1 := Lib.hid (HM1.out.below hb); clear hb)
      | (go_at_call 10; (with_reducible refine (RM.out _ _ _ HM1.out).mono ?_); rintro e W1 ⟨rfl, hb⟩; have HB := Lib.hid (HB.out.trans (hb.mono HB.out.size)); have HM1 := Lib.hid (HM1.out.below hb); clear hb)
      | (go_at_call 14; (with_reducible refine (AW.out _).mono ?_); rintro e W1 ⟨rfl, hb⟩; have HB := Lib.hid (HB.out.trans (hb.mono HB.out.size)); clear hb))
        go_ret
        exact ⟨rfl, HB.out⟩
      · have hR' : ¬ RightT (turnL L) := fun h => hR ((right_turn_iff L).1 h)
        have RI := Lib.hid (fun a c W (h : NodesAt W a i c L) => right_any a i c L W h HM.out false ⟨fun h => (Bool.false_ne_true h).elim, fun h => absurd h hR⟩)
        have RM := Lib.hid (fun a c W (h : NodesAt W a i c (turnL L)) => right_any a i c (turnL L) W h HM.out false ⟨fun h => (Bool.false_ne_true h).elim, fun h => absurd h hR'⟩)
        have TX := Lib.hid (fun a c W (h : NodesAt W a i c L) => treeText_no a i c L W h HM.out hR)
        have TM := Lib.hid (fun a c W (h : NodesAt W a i c (turnL L)) => treeText_no a i c (turnL L) W h HM.out hR')
        clear hR hR' hg hM
        go_wp2_with (first
      | (go_at_call 11; (with_reducible refine (TO.out _ HB.out).mono ?_); rintro e W1 ⟨a1, c1, rfl, hnd, hb⟩; have HND := Lib.hid hnd; have HB := Lib.hid (HB.out.trans (hb.mono HB.out.size)); have HM1 := Lib.hid (HM1.out.below hb); clear hb hnd)
      | (go_at_call 13; (with_reducible refine (TX.out _ _ _ HND.out).mono ?_); rintro e W1 ⟨rfl, hb⟩; have HB := Lib.hid (HB.out.trans (hb.mono HB.out.size)); have HM1 := Lib.hid (HM1.out.below hb); clear hb)
      | (go_at_call 13; (with_reducible refine (TM.out _ _ _ HM1.out).mono ?_); rintro e W1 ⟨rfl, hb⟩; have HB := Lib.hid (HB.out.trans (hb.mono HB.out.size)); have HM1 := Lib.hid (HM1.out.below hb); clear hb)
      | (go_at_call 10; (with_reducible refine (RI.out _ _ _ HND.out).mono ?_); rintro e W1 ⟨rfl, hb⟩; have HB := Lib.hid (HB.out.trans (hb.mono HB.out.size)); have HM1 := Lib.hid (HM1.out.below hb); clear hb)
      | (go_at_call 10; (with_reducible refine (RM.out _ _ _ HM1.out).mono ?_); rintro e W1 ⟨rfl, hb⟩; have HB := Lib.hid (HB.out.trans (hb.mono HB.out.size)); have HM1 := Lib.hid (HM1.out.below hb); clear hb)
      | (go_at_call 14; (with_reducible refine (AW.out _).mono ?_); rintro e W1 ⟨rfl, hb⟩; have HB := Lib.hid (HB.out.trans (hb.mono HB.out.size)); clear hb))
        go_ret
        exact ⟨rfl, HB.out⟩
#print axioms treeTurned_any
end Go.Proofs.Ytmenhbdapikpeaa
