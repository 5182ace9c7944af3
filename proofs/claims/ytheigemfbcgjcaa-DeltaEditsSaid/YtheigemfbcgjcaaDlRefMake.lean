/-
  The walk of the document's Make: it makes what the program's does.
-/
import Derived.Test.YtheigemfbcgjcaaDlRef2
import Derived.Test.YtheigemfbcgjcaaDlRef3
namespace Go.Proofs.Ytheigemfbcgjcaa
open Go.RowKit Go.Lib

theorem seg_step {t : List UInt8} {x at_ : Nat} {u : UInt8} (hx : x ≤ at_) (hat : at_ < t.length) (hu : u = t.getD at_ 0) : (t.take at_).drop x ++ [u] = (t.take (at_ + 1)).drop x := by
  rw [hu, List.take_add_one, List.drop_append_of_le_length (by rw [List.length_take]; omega), List.getElem?_eq_getElem hat]
  simp [List.getD_eq_getElem?_getD, List.getElem?_eq_getElem hat]
theorem seg_add {t : List UInt8} {x at_ : Nat} (hx : x ≤ at_) (hat : at_ ≤ t.length) : (if ((t.take at_).drop x).length = 0 then [] else numF (2 * ((t.take at_).drop x).length) ++ (t.take at_).drop x) = addF t x at_ := by
  have hl : ((t.take at_).drop x).length = at_ - x := by rw [List.length_drop, List.length_take]; omega
  unfold addF
  rw [hl]
  by_cases h : x < at_
  · rw [if_neg (by omega), if_pos h]
  · rw [if_pos (by omega), if_neg h]
theorem add_short {t : List UInt8} {x at_ : Nat} (hat : at_ ≤ t.length) (ht : t.length ≤ 400000) : (addF t x at_).length ≤ 9 + (at_ - x) := by
  unfold addF
  by_cases h : x < at_
  · rw [if_pos h, List.length_append, List.length_drop, List.length_take]
    have := numF_length_le9 (2 * (at_ - x)) (by omega)
    omega
  · rw [if_neg h]; simp
set_option maxRecDepth 100000 in
set_option maxHeartbeats 8000000 in
theorem refMake_any (a a3 : Option Addr) (n c nt ct : Nat) (b t : List UInt8) (w : World) (hb : Bytes w a n c b) (ht : Bytes w a3 nt ct t) (hn : n ≤ 400000) (hnt : nt ≤ 400000) :
    Calls Try.prog 10 #[.slice a n c, .slice a3 nt ct] w (Made w (makeF b t)) := by
  have HB := Lib.hid hb
  have HT := Lib.hid ht
  have HN : Hid (n ≤ 400000 ∧ nt ≤ 400000 ∧ b.length = n ∧ t.length = nt) := Lib.hid ⟨hn, hnt, hb.1, ht.1⟩
  clear hb ht hn hnt
  go_enter Try.func10, Try.ntmps10
  go_wp2_with (first
    | (go_at_call 21; (with_reducible show Calls _ _ _ w _); refine (refNumber_any n w (by have := HN.out; omega)).mono ?_; rintro e w1 ⟨a1, n1, c1, rfl, ho, hb⟩; have HO1 := Lib.hid ho; have HB1 := Lib.hid hb; clear ho hb)
    | (go_at_call 21; (with_reducible show Calls _ _ _ w1 _); refine (refNumber_any nt w1 (by have := HN.out; omega)).mono ?_; rintro e w2 ⟨a2, n2, c2, rfl, ho, hb⟩; have HO2 := Lib.hid ho; have HB2 := Lib.hid hb; clear ho hb)
    | (at_builtin; go_must (refine app_bytes rfl _ _ rfl w.heap.size _ (numF n) rfl (HO1.out.below HB2.out) a2 n2 c2 (numF nt) rfl HO2.out.isBytes (by have h1 := numF_length_le9 n (by have := HN.out; omega); have h2 := numF_length_le9 nt (by have := HN.out; omega); have h3 := HO2.out.len; omega) (Nat.le_trans HB1.out.size HB2.out.size) ?_); intro v3 w3 ho hg; obtain ⟨a3', n3, c3, rfl, _⟩ := ho.bytes; have HO3 := Lib.hid ho; have HB3 := Lib.hid ((HB1.out.trans (HB2.out.mono HB1.out.size)).grown hg (Nat.le_trans HB1.out.size HB2.out.size) HO1.out.grown); clear ho hg))
  go_loopg [5, 6, 7] (nt + 1) (fun g v5 v6 v7 W => ∃ (at_ x : Nat) (O : List UInt8) (a5 a6 : Option Addr) (n5 c5 n6 c6 : Nat), v7 = .int .i64 (at_ : Nat) ∧ v5 = .slice a5 n5 c5 ∧ v6 = .slice a6 n6 c6 ∧ Hid (nt + 1 ≤ g + at_) ∧ Hid (x ≤ at_ ∧ at_ ≤ nt) ∧ Hid (O ++ goF b t g at_ x = makeF b t) ∧ Hid (O.length ≤ 20 + 30 * x) ∧ Hid (Own W w.heap.size (.slice a5 n5 c5) O) ∧ Hid (Own W w.heap.size (.slice a6 n6 c6) ((t.take at_).drop x)) ∧ Hid (Apart (.slice a5 n5 c5) (.slice a6 n6 c6)) ∧ Hid (Below w.heap.size w W))
  case atStart =>
    refine ⟨0, 0, numF n ++ numF nt, a3', none, n3, c3, 0, 0, rfl, rfl, rfl, Lib.hid (by omega), Lib.hid ⟨by omega, by omega⟩, Lib.hid ?_, Lib.hid ?_, HO3, Lib.hid (Own.nil _ _), Lib.hid (fun k _ h => by cases h), HB3⟩
    · have h1 := HN.out
      unfold makeF
      rw [h1.2.2.1, h1.2.2.2]; simp
    · have h1 := numF_length_le9 n (by have := HN.out; omega)
      have h2 := numF_length_le9 nt (by have := HN.out; omega)
      simp only [List.length_append]; omega
  case round =>
    obtain ⟨at_, x, O, a5, a6, n5, c5, n6, c6, rfl, rfl, rfl, HG, HAT, HGO, HLN, HO, HA, HAP, HBW⟩ := hrel
    by_cases hi : (at_ : Int) < (nt : Int)
    · have hat := HAT.out
      have hn := HN.out
      obtain ⟨bt, ot, rfl⟩ := bsome HT.out (by have := HT.out.2.1; omega)
      obtain ⟨q, hq⟩ : ∃ q, gk = q + 1 := ⟨gk - 1, by have := HG.out; omega⟩
      have HQ := Lib.hid hq
      rcases hbst : bestF b (t.drop at_) n with ⟨p, l⟩
      have HLG : Hid (Calls Try.prog 22 #[.slice a n c, .slice (some ⟨bt, ot, none⟩) nt ct, .int .i64 (at_ : Nat)] wr fun e w' => e = .returned (.tuple #[.int .i64 (p : Nat), .int .i64 (l : Nat)]) ∧ Below wr.heap.size wr w') := Lib.hid (by
        have h := refLongest_any a (some ⟨bt, ot, none⟩) n c nt ct at_ b t wr (HB.out.below HBW.out) (HT.out.below HBW.out) hat.2 (by omega) (by omega)
        rw [hbst] at h
        exact h)
      have HI : Hid (at_ < nt) := Lib.hid (by omega)
      have hi0 : (0 : Int) ≤ (at_ : Int) := by omega
      by_cases hl : l < 8
      · have HPL : Hid (rowF b (t.drop at_) = (0, 0)) := Lib.hid (by unfold rowF; rw [hn.2.2.1, hbst, if_pos hl])
        obtain ⟨u, hu⟩ : ∃ u, u = t.getD at_ 0 := ⟨_, rfl⟩
        have HU := Lib.hid hu
        have W1 : IntKind.i64.wrap ((at_ : Int) + 1) = (at_ : Int) + 1 := IntWalk.i64_in _ (by omega)
        have d1 : decide ((l : Int) < 8) = true := decide_eq_true (by omega)
        have HCL := Lib.hid (fun W (hW : Below w.heap.size w W) => hu ▸ bcell (HT.out.below hW) at_ HI.out)
        clear hq hat hn hbst hl hu
        go_wp2_with (first
          | (go_at_call 22; (with_reducible refine HLG.out.mono ?_); rintro e w7 ⟨rfl, hb⟩; have HB7 := Lib.hid (HBW.out.trans (hb.mono HBW.out.size)); have HO7 := Lib.hid (HO.out.below hb); have HA7 := Lib.hid (HA.out.below hb); have hc7 := HCL.out w7 HB7.out; clear hb)
          | (at_builtin; go_must (refine app_bytes_told rfl _ _ rfl w.heap.size _ ((t.take at_).drop x) rfl (HA7.out.alloc _) (some ⟨w7.heap.size, 0, none⟩) 1 1 [u] rfl (bytes_one _ _) (by have h1 := HN.out; have h2 := HAT.out; rw [List.length_drop, List.length_take]; omega) (by have := HB7.out.size; simp; omega) ?_); intro v8 w8 ho hg ht8; obtain ⟨a8, n8, c8, rfl, _⟩ := ho.bytes; have HO8 : Hid (Own w8 w.heap.size (.slice a5 n5 c5) O) := Lib.hid (World.ownsRow.kept (HO7.out.alloc _) hg HAP.out.kept); have HA8 := Lib.hid ho; have HB8 := Lib.hid ((HB7.out.alloc HB7.out.size _).grown hg (by have := HB7.out.size; simp; omega) HA7.out.grown); have HAP8 := Lib.hid (HAP.out.told ht8 (fun k hk => (World.ownsRow.lt (HO7.out.alloc _) k hk).2)); clear ho hg ht8))
        go_roundg q
        case measure => have := HQ.out; omega
        case rel =>
          refine ⟨at_ + 1, x, O, a5, a8, n5, c5, n8, c8, by go_num, rfl, rfl, Lib.hid (by have := HG.out; have := HQ.out; omega), Lib.hid (by have := HAT.out; have := HI.out; omega), Lib.hid ?_, HLN, HO8, Lib.hid ?_, HAP8, HB8⟩
          · have h1 := HGO.out; rw [HQ.out, go_none (by have := HI.out; have := HN.out; omega) HPL.out] at h1; exact h1
          · have h1 := HA8.out; rw [seg_step HAT.out.1 (by have := HI.out; have := HN.out; omega) HU.out] at h1; exact h1
      · have HPL : Hid (rowF b (t.drop at_) = (p, l)) := Lib.hid (by unfold rowF; rw [hn.2.2.1, hbst, if_neg hl])
        have HRI : Hid (RowIs b (t.drop at_) p l) := Lib.hid (by have h := rowF_is b (t.drop at_); rw [HPL.out] at h; exact h)
        have hle := HRI.out.le
        rw [List.length_drop] at hle
        obtain ⟨at2, hat2⟩ : ∃ q, at_ + l = q := ⟨_, rfl⟩
        obtain ⟨l2, hl2⟩ : ∃ q, 2 * l = q := ⟨_, rfl⟩
        obtain ⟨l3, hl3⟩ : ∃ q, 2 * l + 1 = q := ⟨_, rfl⟩
        have W1 : IntKind.i64.wrap ((at_ : Int) + (l : Int)) = (at2 : Int) := by rw [IntWalk.i64_in _ (by omega)]; omega
        have W2 : IntKind.i64.wrap (2 * (l : Int)) = (l2 : Int) := by rw [IntWalk.i64_in _ (by omega)]; omega
        have W3 : IntKind.i64.wrap ((l2 : Int) + 1) = (l3 : Int) := by rw [IntWalk.i64_in _ (by omega)]; omega
        have d1 : decide ((l : Int) < 8) = false := decide_eq_false (by omega)
        have d1n : decide (l < 8) = false := decide_eq_false (by omega)
        have HL3 : Hid (l3 ≤ 1000000 ∧ p ≤ 400000 ∧ at_ + 8 ≤ at2 ∧ at2 ≤ nt ∧ at_ + l = at2 ∧ 2 * l + 1 = l3) := Lib.hid ⟨by omega, by omega, by omega, by omega, hat2, hl3⟩
        obtain ⟨D, hD⟩ : ∃ D, (t.take at_).drop x = D := ⟨_, rfl⟩
        have HDE := Lib.hid hD
        rw [hD] at HA
        have HDL : Hid (D.length = at_ - x) := Lib.hid (by rw [← hD, List.length_drop, List.length_take]; omega)
        obtain ⟨X, hX⟩ : ∃ X, addF t x at_ = X := ⟨_, rfl⟩
        have HXE := Lib.hid hX
        have HAD : Hid (∀ W, Own W w.heap.size (.slice a6 n6 c6) D → Calls Try.prog 23 #[.slice a6 n6 c6] W (Made W X)) := Lib.hid (fun W hW => by
          have h := refAdded_any a6 n6 c6 D W hW.isBytes (by have := hW.len; have := HDL.out; have := HN.out; have := HAT.out; omega)
          rw [← hD, seg_add HAT.out.1 (by have := HAT.out; have := HN.out; omega), hX] at h
          exact h)
        have HXL : Hid (X.length ≤ 9 + (at_ - x)) := Lib.hid (by rw [← hX]; exact add_short (by have := HAT.out; have := HN.out; omega) (by have := HN.out; omega))
        clear hq hat hn hbst hle hat2 hl2 hl3 hD hX
        go_wp2_with (first
          | (go_at_call 22; (with_reducible refine HLG.out.mono ?_); rintro e w7 ⟨rfl, hb⟩; have HB7 := Lib.hid (HBW.out.trans (hb.mono HBW.out.size)); have HO7 := Lib.hid (HO.out.below hb); have HA7 := Lib.hid (HA.out.below hb); clear hb)
          | (go_at_call 23; go_must (refine (HAD.out w7 HA7.out).mono ?_); rintro e w8 ⟨a8, n8, c8, rfl, ho, hb⟩; have HO8 := Lib.hid ho; have HB8 := Lib.hid hb; clear ho hb)
          | (at_builtin; (with_reducible show wpList _ _ _ (⟨some 42, _, _, _, _, _⟩ :: _) _ _); go_must (refine app_bytes rfl _ _ rfl w.heap.size _ O rfl (HO7.out.below HB8.out) a8 n8 c8 X rfl HO8.out.isBytes (by have h1 := HXL.out; have h2 := HLN.out; have h3 := HAT.out; have h4 := HN.out; have h5 := HO8.out.len; omega) (Nat.le_trans HB7.out.size HB8.out.size) ?_); intro v9 w9 ho hg; obtain ⟨a9, n9, c9, rfl, _⟩ := ho.bytes; have HO9 := Lib.hid ho; have HB9 := Lib.hid ((HB7.out.trans (HB8.out.mono HB7.out.size)).grown hg (Nat.le_trans HB7.out.size HB8.out.size) HO7.out.grown); clear ho hg)
          | (go_at_call 21; (with_reducible show Calls _ _ _ w9 _); refine (refNumber_any l3 w9 (by have := HL3.out; omega)).mono ?_; rintro e w10 ⟨a10, n10, c10, rfl, ho, hb⟩; have HO10 := Lib.hid ho; have HB10 := Lib.hid hb; clear ho hb)
          | (at_builtin; (with_reducible show wpList _ _ _ (⟨some 48, _, _, _, _, _⟩ :: _) _ _); go_must (refine app_bytes rfl _ _ rfl w.heap.size _ (O ++ X) rfl (HO9.out.below HB10.out) a10 n10 c10 (numF l3) rfl HO10.out.isBytes (by have h1 := HXL.out; have h2 := HLN.out; have h3 := HAT.out; have h4 := HN.out; have h5 := HO10.out.len; have h6 := numF_length_le9 l3 (by have := HL3.out; omega); rw [List.length_append]; omega) (Nat.le_trans HB9.out.size HB10.out.size) ?_); intro v11 w11 ho hg; obtain ⟨a11, n11, c11, rfl, _⟩ := ho.bytes; have HO11 := Lib.hid ho; have HB11 := Lib.hid ((HB9.out.trans (HB10.out.mono HB9.out.size)).grown hg (Nat.le_trans HB9.out.size HB10.out.size) HO9.out.grown); clear ho hg)
          | (go_at_call 21; (with_reducible show Calls _ _ _ w11 _); refine (refNumber_any p w11 (by have := HL3.out; omega)).mono ?_; rintro e w12 ⟨a12, n12, c12, rfl, ho, hb⟩; have HO12 := Lib.hid ho; have HB12 := Lib.hid hb; clear ho hb)
          | (at_builtin; (with_reducible show wpList _ _ _ (⟨some 52, _, _, _, _, _⟩ :: _) _ _); go_must (refine app_bytes rfl _ _ rfl w.heap.size _ ((O ++ X) ++ numF l3) rfl (HO11.out.below HB12.out) a12 n12 c12 (numF p) rfl HO12.out.isBytes (by have h1 := HXL.out; have h2 := HLN.out; have h3 := HAT.out; have h4 := HN.out; have h5 := HO12.out.len; have h6 := numF_length_le9 l3 (by have := HL3.out; omega); have h7 := numF_length_le9 p (by have := HL3.out; omega); rw [List.length_append, List.length_append]; omega) (Nat.le_trans HB11.out.size HB12.out.size) ?_); intro v13 w13 ho hg; obtain ⟨a13, n13, c13, rfl, _⟩ := ho.bytes; have HO13 := Lib.hid ho; have HB13 := Lib.hid ((HB11.out.trans (HB12.out.mono HB11.out.size)).grown hg (Nat.le_trans HB11.out.size HB12.out.size) HO11.out.grown); clear ho hg))
        go_roundg q
        case measure => have := HQ.out; omega
        case rel =>
          refine ⟨at2, at2, _, a13, none, n13, c13, 0, 0, rfl, rfl, rfl, Lib.hid (by have := HG.out; have := HQ.out; have := HL3.out; omega), Lib.hid (by have := HL3.out; omega), Lib.hid ?_, Lib.hid ?_, HO13, Lib.hid ?_, Lib.hid (fun k _ h => by cases h), HB13⟩
          · have h1 := HGO.out
            rw [HQ.out, go_row (by have := HI.out; have := HN.out; omega) HPL.out (by omega)] at h1
            have h2 : at_ + l = at2 := HL3.out.2.2.2.2.1
            have h3 : 2 * l + 1 = l3 := HL3.out.2.2.2.2.2
            rw [h2, h3, HXE.out] at h1
            rw [← h1]
            simp [List.append_assoc]
          · have h1 := HL3.out; have h2 := HLN.out; have h3 := HAT.out; have h4 := numF_length_le9 l3 (by omega); have h5 := numF_length_le9 p (by omega); have h6 := HXL.out
            simp only [List.length_append]; omega
          · have h7 : (t.take at2).drop at2 = [] := by rw [List.drop_eq_nil_iff, List.length_take]; omega
            rw [h7]; exact Own.nil _ _
    · have hat : at_ = nt := by have := HAT.out; omega
      subst hat
      obtain ⟨q, hq⟩ : ∃ q, gk = q + 1 := ⟨gk - 1, by have := HG.out; omega⟩
      have HQ := Lib.hid hq
      obtain ⟨D, hD⟩ : ∃ D, (t.take at_).drop x = D := ⟨_, rfl⟩
      rw [hD] at HA
      obtain ⟨X, hX⟩ : ∃ X, addF t x at_ = X := ⟨_, rfl⟩
      have HXE := Lib.hid hX
      have HAD : Hid (Calls Try.prog 23 #[.slice a6 n6 c6] wr (Made wr X)) := Lib.hid (by
        have h := refAdded_any a6 n6 c6 D wr HA.out.isBytes (by have h1 := HA.out.len; have h2 := HN.out; have h3 := HAT.out; rw [← hD, List.length_drop, List.length_take] at h1; omega)
        rw [← hD, seg_add HAT.out.1 (by have := HN.out; omega), hX] at h
        exact h)
      have HXL : Hid (X.length ≤ 9 + (at_ - x)) := Lib.hid (by rw [← hX]; exact add_short (by have := HN.out; omega) (by have := HN.out; omega))
      clear hq hD hX
      go_wp2_with (first
        | (go_at_call 23; go_must (refine HAD.out.mono ?_); rintro e w8 ⟨a8, n8, c8, rfl, ho, hb⟩; have HO8 := Lib.hid ho; have HB8 := Lib.hid hb; clear ho hb)
        | (at_builtin; (with_reducible show wpList _ _ _ (⟨some 59, _, _, _, _, _⟩ :: _) _ _); go_must (refine app_bytes rfl _ _ rfl w.heap.size _ O rfl (HO.out.below HB8.out) a8 n8 c8 X rfl HO8.out.isBytes (by have h1 := HXL.out; have h2 := HLN.out; have h3 := HAT.out; have h4 := HN.out; have h5 := HO8.out.len; omega) (Nat.le_trans HBW.out.size HB8.out.size) ?_); intro v9 w9 ho hg; obtain ⟨a9, n9, c9, rfl, _⟩ := ho.bytes; have HO9 := Lib.hid ho; have HB9 := Lib.hid ((HBW.out.trans (HB8.out.mono HBW.out.size)).grown hg (Nat.le_trans HBW.out.size HB8.out.size) HO.out.grown); clear ho hg))
      go_ret
      have hgo : makeF b t = O ++ X := by rw [← HGO.out, HQ.out, go_end (by have := HN.out; omega), ← HXE.out, HN.out.2.2.2]
      rw [hgo]
      exact ⟨a9, n9, c9, rfl, HO9.out, HB9.out⟩
#print axioms refMake_any
end Go.Proofs.Ytheigemfbcgjcaa
