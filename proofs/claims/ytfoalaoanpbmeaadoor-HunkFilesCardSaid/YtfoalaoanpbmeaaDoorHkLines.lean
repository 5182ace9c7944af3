/-
  The walk of Lines.
-/
import Derived.Test.YtfoalaoanpbmeaaDoorGrp14
import Derived.WalkMore
namespace Go.Proofs.YtfoalaoanpbmeaaDoor
open Go.RowKit Go.Lib

set_option maxRecDepth 100000 in
set_option maxHeartbeats 8000000 in
theorem lines_any (a a' : Option Addr) (n c n' c' : Nat) (L L' : List FileL) (w : World) (hL : FilesAt w a n c L) (hL' : FilesAt w a' n' c' L') (hl : ∀ f ∈ L, f.1.length ≤ 4000000000 ∧ f.2.length ≤ 4000000000) (hl' : ∀ f ∈ L', f.1.length ≤ 4000000000 ∧ f.2.length ≤ 4000000000) (hn : n ≤ 5000) (hn' : n' ≤ 5000) (hT : HTabs w) :
    Calls Tryd.prog 16 #[.slice a n c, .slice a' n' c'] w (LinesIs (linesT L L') w) := by
  have HF1 := Lib.hid hL
  have HF2 := Lib.hid hL'
  have HS1 := Lib.hid hl
  have HS2 := Lib.hid hl'
  have HN : Hid (n ≤ 5000 ∧ n' ≤ 5000 ∧ L.length = n ∧ L'.length = n') := Lib.hid ⟨hn, hn', hL.1, hL'.1⟩
  have HT := Lib.hid hT
  have HK1 : Hid ((byF L).length ≤ 5000 ∧ (byF L').length ≤ 5000) := Lib.hid ⟨by have := byF_len L; have := hL.1; omega, by have := byF_len L'; have := hL'.1; omega⟩
  clear hL hL' hl hl' hn hn' hT
  go_enter Tryd.func16, Tryd.ntmps16
  go_wp2_with (first
    | (go_at_call 25; (with_reducible refine (byPath_any a n c L w HF1.out (fun f hf => (HS1.out f hf).1) HN.out.1).mono ?_); rintro e w1 ⟨k1, rfl, hm, hk, hb⟩; have HM1 := Lib.hid hm; have HB1 := Lib.hid hb; clear hm hk hb)
    | (go_at_call 25; (with_reducible refine (byPath_any a' n' c' L' w1 (HF2.out.below HB1.out) (fun f hf => (HS2.out f hf).1) HN.out.2.1).mono ?_); rintro e w2 ⟨k2, rfl, hm, hk, hb⟩; have HM2 := Lib.hid hm; have HM1b := Lib.hid (HM1.out.below hb); have HB2 := Lib.hid (HB1.out.trans (hb.mono HB1.out.size)); clear hm hk hb)
    | (go_at_call 28; (with_reducible refine (Tryd.maps_KeysF (some k1) w2).mono ?_); rintro e w3 ⟨rfl, rfl⟩)
    | (go_at_call 28; (with_reducible refine (Tryd.maps_KeysF (some k2) w4).mono ?_); rintro e w5 ⟨rfl, rfl⟩)
    | (go_at_call 27; (with_reducible refine (collectH HM1b.out (byF_nodup L) (by have := HK1.out; omega)).mono ?_); rintro e w4 ⟨a4, n4, c4, s1, rfl, hp, ha, hb⟩; have HP4 := Lib.hid hp; have HA4 := Lib.hid ha; have hb4 : Below w2.heap.size w2 w4 := ((Below.refl _ _).alloc (Nat.le_refl _) _).trans (hb.mono (by simp)); have HM1c := Lib.hid (HM1b.out.below hb4); have HM2c := Lib.hid (HM2.out.below hb4); have HB4 := Lib.hid (HB2.out.trans (hb4.mono HB2.out.size)); clear hp ha hb hb4)
    | (go_at_call 27; (with_reducible refine (collectH HM2c.out (byF_nodup L') (by have := HK1.out; omega)).mono ?_); rintro e w6 ⟨a6, n6, c6, s2, rfl, hp, ha, hb⟩; have HP6 := Lib.hid hp; have HA6 := Lib.hid ha; have hb6 : Below w4.heap.size w4 w6 := ((Below.refl _ _).alloc (Nat.le_refl _) _).trans (hb.mono (by simp)); have HA4b := Lib.hid (HA4.out.below hb6); have HM1d := Lib.hid (HM1c.out.below hb6); have HM2d := Lib.hid (HM2c.out.below hb6); have HB6 := Lib.hid (HB4.out.trans (hb6.mono HB4.out.size)); clear hp ha hb hb6)
    | (go_at_call 26; (with_reducible refine (concat_ln w6.heap.size 2 [s1, s2] _ rfl (by decide) (parts2 w6 HA4b.out HA6.out) (by have h1 := HP4.out.length_eq; have h2 := HP6.out.length_eq; have h3 := HK1.out; simp only [List.length_map, List.flatten_cons, List.flatten_nil, List.append_nil, List.length_append] at h1 h2 ⊢; omega)).mono ?_); rintro e w8 ⟨a8, n8, c8, rfl, ho, hb⟩; have hb8 : Below w6.heap.size w6 w8 := ((Below.refl _ _).alloc (Nat.le_refl _) _).trans (hb.mono (by simp)); have HO8 : Hid (OwnG lnK 9 w8 w6.heap.size (.slice a8 n8 c8) (s1 ++ s2)) := Lib.hid (by have h1 := ho.mono (base' := w6.heap.size) (by simp); simpa using h1); have HN8 : Hid (n8 ≤ 10000) := Lib.hid (by have h0 := HO8.out.len; have h1 := HP4.out.length_eq; have h2 := HP6.out.length_eq; have h3 := HK1.out; simp only [List.length_map, List.length_append] at h0 h1 h2; omega); have HM1e := Lib.hid (HM1d.out.below hb8); have HM2e := Lib.hid (HM2d.out.below hb8); have HB8 := Lib.hid (HB6.out.trans (hb8.mono HB6.out.size)); have HL8 := Lib.hid (⟨HM1d.out.lt, HM2d.out.lt, hb8.size, HB6.out.size⟩ : k1 < w6.heap.size ∧ k2 < w6.heap.size ∧ w6.heap.size ≤ w8.heap.size ∧ w.heap.size ≤ w6.heap.size); clear ho hb hb8)
    | (go_at_call 29; (with_reducible refine (sortH HO8.out (by have := HN8.out; omega)).mono ?_); rintro e w9 ⟨rfl, ho, hb⟩; have HO9 := Lib.hid ho; have HB9 := Lib.hid hb; clear ho hb)
    | (go_at_call 30; (with_reducible refine (compactH HO9.out (by have := HN8.out; omega)).mono ?_); rintro e w10 ⟨n10, rfl, ha, hb⟩; have HA10 := Lib.hid ha; have HB10 := Lib.hid (HB9.out.trans hb); clear ha hb))
  obtain ⟨X, hX⟩ : ∃ X, byF L = X := ⟨_, rfl⟩
  obtain ⟨Y, hY⟩ : ∃ Y, byF L' = Y := ⟨_, rfl⟩
  obtain ⟨P, hP⟩ : ∃ P, pathsF L L' = P := ⟨_, rfl⟩
  obtain ⟨R, hR⟩ : ∃ R, linesT L L' = R := ⟨_, rfl⟩
  have hb10 : Below w6.heap.size w8 w10 := HB10.out
  have HX : Hid (ByAt w10 k1 X) := Lib.hid (hX ▸ HM1e.out.low hb10 HL8.out.1)
  have HY : Hid (ByAt w10 k2 Y) := Lib.hid (hY ▸ HM2e.out.low hb10 HL8.out.2.1)
  have HP : Hid (AtG lnK w10 a8 n10 c8 P) := Lib.hid (by have h1 := HA10.out; rw [paths_perm HP4.out HP6.out, hP] at h1; exact h1)
  have HPL : Hid (∀ p ∈ P, p.length ≤ 4000000000) := Lib.hid (hP ▸ paths_small (fun f hf => (HS1.out f hf).1) (fun f hf => (HS2.out f hf).1))
  have HLK : Hid ((∀ p, ((lookP X p).getD ([], [])).2.length ≤ 4000000000) ∧ (∀ p, ((lookP Y p).getD ([], [])).2.length ≤ 4000000000)) := Lib.hid ⟨fun p => hX ▸ look_small (fun f hf => (HS1.out f hf).2) p, fun p => hY ▸ look_small (fun f hf => (HS2.out f hf).2) p⟩
  have HPN : Hid (P.length = n10 ∧ n10 ≤ 10000) := Lib.hid ⟨HP.out.1, by
    have h1 := compact_length_le (srtF (s1 ++ s2))
    have h2 := HA10.out.1
    have h3 := HO9.out.len
    have h4 := HN8.out
    omega⟩
  have HR0 : Hid (goL X Y [] (P.drop 0) = R) := Lib.hid (by rw [List.drop_zero, ← hX, ← hY, ← hP]; exact hR)
  have HB : Hid (Below w.heap.size w w10) := Lib.hid (HB8.out.trans (hb10.mono HL8.out.2.2.2))
  have HTT : Hid (HTabs w10) := Lib.hid (HT.out.below HB.out)
  have HRE := Lib.hid hR
  rw [hR]
  clear HF1 HF2 HS1 HS2 HN HT HK1 HM1 HM1b HM1c HM1d HM1e HM2 HM2c HM2d HM2e HB1 HB2 HB4 HB6 HB8 HP4 HA4 HA4b HP6 HA6 HO8 HN8 HL8 HO9 HB9 HA10 HB10 hb10 hX hY hP hR
  go_loopg [9, 38] n10 (fun gk v9 v38 W => ∃ (i : Nat) (a4 : Option Addr) (n4 c4 : Nat) (A : List Ln), v38 = .int .i64 (i : Nat) ∧ v9 = .slice a4 n4 c4 ∧ Hid (gk + i = n10) ∧ Hid (goL X Y A (P.drop i) = R) ∧ Hid (OwnG lnK 9 W w10.heap.size (.slice a4 n4 c4) A) ∧ Hid (A.length ≤ i * 67117057) ∧ Hid (Below w10.heap.size w10 W))
  case atStart => exact ⟨0, none, 0, 0, [], rfl, rfl, Lib.hid rfl, HR0, Lib.hid (OwnG.nil), Lib.hid (Nat.zero_le _), Lib.hid (Below.refl _ _)⟩
  case round =>
    clear HR0
    obtain ⟨i, a4, n4, c4, A, rfl, rfl, HI, HG, HO, HAL, HBW⟩ := hrel
    by_cases hi : (i : Int) < (n10 : Int)
    · have hHP := HP.out.below HBW.out
      obtain ⟨b, off, rfl⟩ := HP.out.some_ (by omega)
      obtain ⟨p, hp⟩ : ∃ p, P.getD i [] = p := ⟨_, rfl⟩
      have hcell : wr.cell? ⟨b, off + i, none⟩ = some (.string (strB p)) := by
        have h1 := ln_cell hHP i (by omega)
        rw [hp] at h1
        exact h1
      have HPP : Hid (p.length ≤ 4000000000) := Lib.hid (HPL.out p (by rw [← hp]; exact getD_mem (by have := HPN.out; omega)))
      have HDR : Hid (P.drop i = p :: P.drop (i + 1)) := Lib.hid (by rw [List.drop_eq_getElem_cons (by have := HPN.out; omega), ← hp, List.getD_eq_getElem?_getD, List.getElem?_eq_getElem (by have := HPN.out; omega)]; rfl)
      obtain ⟨⟨p1, b1⟩, hf1⟩ := look_two (l := X) (p := p) (x := ([], []))
      obtain ⟨⟨p2, b2⟩, hf2⟩ := look_two (l := Y) (p := p) (x := ([], []))
      obtain ⟨q1, hq1⟩ : ∃ q, (lookP X p).isSome = q := ⟨_, rfl⟩
      obtain ⟨q2, hq2⟩ : ∃ q, (lookP Y p).isSome = q := ⟨_, rfl⟩
      have HBB : Hid (b1.length ≤ 4000000000 ∧ b2.length ≤ 4000000000) := Lib.hid ⟨by have h1 := HLK.out.1 p; rw [hf1] at h1; exact h1, by have h1 := HLK.out.2 p; rw [hf2] at h1; exact h1⟩
      obtain ⟨⟨Z, r⟩, hz⟩ : ∃ z, topF b1 b2 = z := ⟨_, rfl⟩
      have HZ := Lib.hid hz
      have HSM : Hid (Gd 8192 4000000000 Z) := Lib.hid (by have h1 := top_small b1 b2 4000000000 HBB.out.1 HBB.out.2; rw [hz] at h1; exact h1)
      have HFN : Hid ((q1 && q2 && (b1 == b2)) = false → fileT (lookP X p) (lookP Y p) p = if r = 0 then (headL p q1 q2 :: toldF Z, 0) else ([], r)) := Lib.hid (fun h => file_ne hq1 hq2 hf1 hf2 h hz)
      have HST := HG.out
      rw [HDR.out, goL_cons] at HST
      have HGS := Lib.hid HST
      obtain ⟨wA, hwA⟩ : ∃ W, wr.alloc (.cells #[.string (strB p1), .string (strB b1)] 38) = W := ⟨_, rfl⟩
      obtain ⟨wB, hwB⟩ : ∃ W, wA.alloc (.cells #[.string (strB p2), .string (strB b2)] 38) = W := ⟨_, rfl⟩
      have eA : wA.heap[wr.heap.size]? = some (.cells #[.string (strB p1), .string (strB b1)] 38 (0, 0)) := hwA ▸ heap_alloc_new wr _
      have eB : wB.heap[wA.heap.size]? = some (.cells #[.string (strB p2), .string (strB b2)] 38 (0, 0)) := hwB ▸ heap_alloc_new wA _
      have sA : wA.heap.size = wr.heap.size + 1 := by rw [← hwA]; simp
      have eA2 : wB.heap[wr.heap.size]? = some (.cells #[.string (strB p1), .string (strB b1)] 38 (0, 0)) := by rw [← hwB]; exact (((Below.refl wA.heap.size wA).alloc (Nat.le_refl _) _).block _ (by omega)).trans eA
      have m1 : wB.cell? ⟨wr.heap.size, 1, none⟩ = some (.string (strB b1)) := by rw [cell_of_row _ _ _ _ _ _ eA2]; rfl
      have m2 : wB.cell? ⟨wr.heap.size + 1, 1, none⟩ = some (.string (strB b2)) := by rw [← sA, cell_of_row _ _ _ _ _ _ eB]; rfl
      have hbA : Below wr.heap.size wr wA := hwA ▸ (Below.refl _ _).alloc (Nat.le_refl _) _
      have hbB : Below wr.heap.size wr wB := hwB ▸ hbA.alloc (by omega) _
      have HXW := Lib.hid (HX.out.below HBW.out)
      have HYW := Lib.hid ((HY.out.below HBW.out).below hbA)
      have HBB2 := Lib.hid (HBW.out.trans (hbB.mono HBW.out.size))
      have HOB := Lib.hid (HO.out.below hbB)
      have HLT := Lib.hid ((fun k hk => Nat.lt_of_lt_of_le (HO.out.lt k hk).2 hbB.size) : ∀ k, (Value.slice a4 n4 c4).ownBlock = some k → k < wB.heap.size)
      have HQ1 := Lib.hid hq1
      have HQ2 := Lib.hid hq2
      have HF1 := Lib.hid hf1
      have HF2 := Lib.hid hf2
      have HIN : Hid (i < n10) := Lib.hid (by omega)
      have hi0 : (0 : Int) ≤ (i : Int) := by omega
      have W1 : IntKind.i64.wrap ((i : Int) + 1) = (i : Int) + 1 := IntWalk.i64_in _ (by have := HPN.out; omega)
      obtain ⟨T1, hT1⟩ : ∃ T, strB ([102, 105, 108, 101, 32] ++ p) = T := ⟨_, rfl⟩
      have hc1 : ∀ W, (Op.stringOp .add ⟨#[102, 105, 108, 101, 32]⟩ (strB p)).run Tryd.prog W = .ok (.string T1) W := fun W => by rw [← hT1]; exact run_catL [102, 105, 108, 101, 32] p (by have := HPP.out; simp only [List.length_cons, List.length_nil]; omega) W
      have HT1 := Lib.hid hT1
      clear hHP hp hf1 hf2 hq1 hq2 hz HST eA eB eA2 hbA hbB hT1
      cases q1 with
      | false =>
        obtain ⟨T2, hT2⟩ : ∃ T, strB (headL p false q2) = T := ⟨_, rfl⟩
        have hc2 : ∀ W, (Op.stringOp .add T1 ⟨#[32, 97, 100, 100, 101, 100]⟩).run Tryd.prog W = .ok (.string T2) W := fun W => by rw [← HT1.out, ← hT2]; exact run_catL _ [32, 97, 100, 100, 101, 100] (by have := HPP.out; simp only [List.length_append, List.length_cons, List.length_nil]; omega) W
        have HT2 := Lib.hid hT2
        have HFE := Lib.hid (HFN.out rfl)
        clear hT2 HFN
        by_cases hr : r = 0
        · subst hr
          have HRR : Hid (goL X Y (A ++ (headL p false q2 :: toldF Z)) (P.drop (i + 1)) = R) := Lib.hid (by have h1 := HGS.out; rw [HFE.out, if_pos rfl] at h1; simpa using h1)
          have HCS : Hid (#[Value.string T2] = (lnK.cells (headL p false q2)).toArray) := Lib.hid (by rw [← HT2.out]; rfl)
          clear HGS HFE
          go_wp2_with (first
            | ((with_reducible show wpList _ _ _ (⟨some 45, _, _, _, _, _⟩ :: _) _ _); go_must (refine wl_exN rfl (exec_lookB HXW.out _ _ rfl rfl p HPP.out rfl _ HQ1.out p1 b1 HF1.out) ?_))
            | ((with_reducible show wpList _ _ _ (⟨some 51, _, _, _, _, _⟩ :: _) _ _); go_must (refine wl_exN rfl (exec_lookB HYW.out _ _ rfl rfl p HPP.out rfl _ HQ2.out p2 b2 HF2.out) ?_))
            | (go_at_call 8; (with_reducible refine (top0 HZ.out wB HBB.out.1 HBB.out.2 (HTT.out.below HBB2.out).tabs).mono ?_); rintro e w5 ⟨a5, c5, base, V, rfl, hv, hh, hbs, hb⟩; have HK5 := Lib.hid (HkB.of hh (HOB.out.below hb) (Nat.le_trans HBB2.out.size hbs) (fun k hk => Nat.lt_of_lt_of_le (HLT.out k hk) hbs)); have HB5 := Lib.hid (HBB2.out.trans (hb.mono HBB2.out.size)); have HV := Lib.hid hv; obtain ⟨N, hN⟩ : ∃ N, V.length = N := ⟨_, rfl⟩; rw [hN]; have HN := Lib.hid hN; clear hv hh hbs hb hN)
            | (at_builtin; go_loud (refine appG_told lnK Tryd.underlying32 infoStH rfl rfl _ _ rfl w10.heap.size _ A rfl (HK5.out.own_.alloc _) (some ⟨w5.heap.size, 0, none⟩) 1 1 [headL p false q2] rfl (oneG w5 (headL p false q2) trivial 9 _ HCS.out) (by have h1 := HAL.out; have h2 := HPN.out; have h3 := HIN.out; omega) (by have := HB5.out.size; simp; omega) (A.length + 1) rfl ?_); intro a6 c6 w6 ho hg ht; have HK6 := Lib.hid ((HK5.out.below ((Below.refl _ _).alloc (Nat.le_refl _) _)).grow ho hg ht); have HB6 := Lib.hid ((HB5.out.alloc HB5.out.size _).grown hg (by have := HB5.out.size; simp; omega) (fun k h => (HK5.out.own_.lt k h).1)); clear ho hg ht))
          clear HK5 HB5
          go_loopg [9, 89] N (fun gq v9 v89 W => ∃ (k : Nat) (a7 : Option Addr) (n7 c7 : Nat), v89 = .int .i64 (k : Nat) ∧ v9 = .slice a7 n7 c7 ∧ Hid (gq + k = N) ∧ Hid (HkB W w10.heap.size a5 c5 V (.slice a7 n7 c7) (A ++ (headL p false q2 :: toldF (Z.take k)))) ∧ Hid (Below w10.heap.size w10 W))
          case atStart => exact ⟨0, a6, _, c6, rfl, rfl, Lib.hid rfl, HK6, HB6⟩
          case round =>
            clear HK6 HB6
            obtain ⟨k, a7, n7, c7, rfl, rfl, HKI, HKB, HBK⟩ := hrel
            by_cases hk : (k : Int) < (N : Int)
            · have hkV : k < V.length := by have := HN.out; omega
              obtain ⟨g, n9, a9, c9, rfl, g0, g1, g2, hA9⟩ := HKB.out.at_ hkV
              have hkZ : k < Z.length := by rw [← HV.out, List.length_map]; exact hkV
              have hz1 : (gd V k).1 = Z.getD k default := by
                rw [← HV.out]; unfold gd; simp [List.getD_eq_getElem?_getD, hkV]
              obtain ⟨⟨f, t, ls⟩, hy⟩ : ∃ y, Z.getD k default = y := ⟨_, rfl⟩
              have hsm := HSM.out.2 _ (getD_mem (d := default) hkZ)
              have HTS : Hid (toldF (Z.take (k + 1)) = toldF (Z.take k) ++ tellF f t ls) := Lib.hid (by rw [told_snoc Z k hkZ, hy])
              rw [hz1, hy] at g0 g1 hA9
              rw [hy] at hsm
              have HSY : Hid (f ≤ 9000000000 ∧ t ≤ 9000000000 ∧ ls.length ≤ 8192 ∧ (∀ s ∈ ls, s.length ≤ 4000000001)) := Lib.hid ⟨by have := hsm.1; simp only at this; omega, by have := hsm.2.1; simp only at this; omega, hsm.2.2.1, hsm.2.2.2⟩
              have HA9 := Lib.hid hA9
              have HTL : Hid ((A ++ (headL p false q2 :: toldF (Z.take k))).length ≤ i * 67117057 + 67117057) := Lib.hid (by
                have h1 := HAL.out
                have h2 := gd_told (B := 4000000000) (V := Z.take k) ⟨by rw [List.length_take]; have := HSM.out.1; omega, fun x hx => HSM.out.2 x (List.mem_of_mem_take hx)⟩
                rw [List.length_append, List.length_cons]; omega)
              have HTL2 : Hid ((tellF f t ls).length = ls.length + 1) := Lib.hid (by unfold tellF; rw [List.length_cons, List.length_map])
              have HKN : Hid (k < N) := Lib.hid (by omega)
              have hk0 : (0 : Int) ≤ (k : Int) := by omega
              have W2 : IntKind.i64.wrap ((k : Int) + 1) = (k : Int) + 1 := IntWalk.i64_in _ (by have h1 := HSM.out.1; have h2 : Z.length ≤ 8192 := h1; omega)
              obtain ⟨wC, hwC⟩ : ∃ W, wr.alloc (.cells #[.int .i64 (f : Nat), .int .i64 (t : Nat), .slice a9 n9 c9] HunkT) = W := ⟨_, rfl⟩
              have hbC : Below wr.heap.size wr wC := hwC ▸ (Below.refl _ _).alloc (Nat.le_refl _) _
              have HKC := Lib.hid (HKB.out.below hbC)
              have HAC := Lib.hid (HA9.out.below hbC)
              have HBC := Lib.hid (HBK.out.trans (hbC.mono HBK.out.size))
              have eC : wC.heap[wr.heap.size]? = some (.cells #[.int .i64 (f : Nat), .int .i64 (t : Nat), .slice a9 n9 c9] HunkT (0, 0)) := hwC ▸ heap_alloc_new wr _
              have l0 : wC.cell? ⟨wr.heap.size, 0, none⟩ = some (.int .i64 (f : Nat)) := by rw [cell_of_row _ _ _ _ _ _ eC]; rfl
              have l1 : wC.cell? ⟨wr.heap.size, 1, none⟩ = some (.int .i64 (t : Nat)) := by rw [cell_of_row _ _ _ _ _ _ eC]; rfl
              have l2 : wC.cell? ⟨wr.heap.size, 2, none⟩ = some (.slice a9 n9 c9) := by rw [cell_of_row _ _ _ _ _ _ eC]; rfl
              clear hkV hkZ hz1 hsm hy hA9 eC hbC
              go_wp2_with (first
                | (go_at_call 31; go_must (refine (tell_any f t n9 c9 a9 ls wC HSY.out.1 HSY.out.2.1 (by have h1 : ls.length = n9 := HAC.out.1; have h2 := HSY.out.2.2.1; omega) HAC.out HSY.out.2.2.2 (HTT.out.below HBC.out)).mono ?_); rintro e w7 ⟨a10, n11, c11, rfl, ha, hb⟩; have HA7 := Lib.hid ha; have HK7 := Lib.hid (HKC.out.below hb); have HB7 := Lib.hid (HBC.out.trans (hb.mono HBC.out.size)); clear ha hb)
                | (at_builtin; obtain ⟨M, hM⟩ : ∃ M, (A ++ (headL p false q2 :: toldF (Z.take k))).length + n11 = M := ⟨_, rfl⟩; go_loud (refine appG_told lnK Tryd.underlying32 infoStH rfl rfl _ _ rfl w10.heap.size _ (A ++ (headL p false q2 :: toldF (Z.take k))) rfl HK7.out.own_ a10 n11 c11 (tellF f t ls) rfl HA7.out (by have h1 := HTL.out; have h2 := HTL2.out; have h3 := HA7.out.1; have h4 := HSY.out.2.2.1; have h5 := HPN.out; have h6 := HIN.out; omega) HB7.out.size M hM.symm ?_); clear hM; intro a8' c8' w8 ho hg ht; have HK8 := Lib.hid (HK7.out.grow ho hg ht); have HB8 := Lib.hid (HB7.out.grown hg HB7.out.size (fun k h => (HK7.out.own_.lt k h).1)); clear ho hg ht))
              go_roundg (gk - 1)
              case measure => have h1 := HKI.out; have h2 := HKN.out; omega
              case rel => exact ⟨k + 1, a8', _, c8', by go_num, rfl, Lib.hid (by have h1 := HKI.out; have h2 := HKN.out; omega), Lib.hid (by rw [HTS.out]; have h1 := HK8.out; rw [List.append_assoc, List.cons_append] at h1; exact h1), HB8⟩
            · have hkN : k = N := by have := HKI.out; omega
              have hZk : Z.take k = Z := List.take_of_length_le (by rw [← HV.out, List.length_map, HN.out, hkN]; exact Nat.le_refl _)
              have HE := Lib.hid HKB.out.own_
              rw [hZk] at HE
              have HEL : Hid ((A ++ (headL p false q2 :: toldF Z)).length ≤ (i + 1) * 67117057) := Lib.hid (by
                have h1 := HAL.out
                have h2 := gd_told HSM.out
                rw [List.length_append, List.length_cons, Nat.succ_mul]; omega)
              clear hkN hZk
              go_wp2
              go_roundg (n10 - (i + 1))
              case measure => have h1 := HI.out; have h2 := HIN.out; omega
              case rel => exact ⟨i + 1, a7, n7, c7, _, by go_num, rfl, Lib.hid (by have h1 := HI.out; have h2 := HIN.out; omega), HRR, HE, HEL, HBK⟩
        · have hr1 : ((r : Int) == 0) = false := by rw [beq_eq_false_iff_ne]; omega
          have hr2 : ¬ ((r : Int) = 0) := by omega
          have HRR : Hid (([], r) = R) := Lib.hid (by have h1 := HGS.out; rw [HFE.out, if_neg hr] at h1; simpa [hr] using h1)
          clear HGS HFE
          go_wp2_with (first
            | ((with_reducible show wpList _ _ _ (⟨some 45, _, _, _, _, _⟩ :: _) _ _); go_must (refine wl_exN rfl (exec_lookB HXW.out _ _ rfl rfl p HPP.out rfl _ HQ1.out p1 b1 HF1.out) ?_))
            | ((with_reducible show wpList _ _ _ (⟨some 51, _, _, _, _, _⟩ :: _) _ _); go_must (refine wl_exN rfl (exec_lookB HYW.out _ _ rfl rfl p HPP.out rfl _ HQ2.out p2 b2 HF2.out) ?_))
            | (go_at_call 8; (with_reducible refine (topN HZ.out wB HBB.out.1 HBB.out.2 (HTT.out.below HBB2.out).tabs).mono ?_); rintro e w5 ⟨a5, c5, base, V, rfl, hv, hh, hbs, hb⟩; have HB5 := Lib.hid (HBB2.out.trans (hb.mono HBB2.out.size)); clear hv hh hbs hb))
          go_ret2
          exact ⟨none, 0, 0, by rw [← HRR.out]; rfl, by rw [← HRR.out]; exact AtG.nil, HB.out.trans (HB5.out.mono HB.out.size)⟩
      | true =>
        cases q2 with
        | false =>
          obtain ⟨T2, hT2⟩ : ∃ T, strB (headL p true false) = T := ⟨_, rfl⟩
          have hc2 : ∀ W, (Op.stringOp .add T1 ⟨#[32, 103, 111, 110, 101]⟩).run Tryd.prog W = .ok (.string T2) W := fun W => by rw [← HT1.out, ← hT2]; exact run_catL _ [32, 103, 111, 110, 101] (by have := HPP.out; simp only [List.length_append, List.length_cons, List.length_nil]; omega) W
          have HT2 := Lib.hid hT2
          have HFE := Lib.hid (HFN.out rfl)
          clear hT2 HFN
          by_cases hr : r = 0
          · subst hr
            have HRR : Hid (goL X Y (A ++ (headL p true false :: toldF Z)) (P.drop (i + 1)) = R) := Lib.hid (by have h1 := HGS.out; rw [HFE.out, if_pos rfl] at h1; simpa using h1)
            have HCS : Hid (#[Value.string T2] = (lnK.cells (headL p true false)).toArray) := Lib.hid (by rw [← HT2.out]; rfl)
            clear HGS HFE
            go_wp2_with (first
              | ((with_reducible show wpList _ _ _ (⟨some 45, _, _, _, _, _⟩ :: _) _ _); go_must (refine wl_exN rfl (exec_lookB HXW.out _ _ rfl rfl p HPP.out rfl _ HQ1.out p1 b1 HF1.out) ?_))
              | ((with_reducible show wpList _ _ _ (⟨some 51, _, _, _, _, _⟩ :: _) _ _); go_must (refine wl_exN rfl (exec_lookB HYW.out _ _ rfl rfl p HPP.out rfl _ HQ2.out p2 b2 HF2.out) ?_))
              | (go_at_call 8; (with_reducible refine (top0 HZ.out wB HBB.out.1 HBB.out.2 (HTT.out.below HBB2.out).tabs).mono ?_); rintro e w5 ⟨a5, c5, base, V, rfl, hv, hh, hbs, hb⟩; have HK5 := Lib.hid (HkB.of hh (HOB.out.below hb) (Nat.le_trans HBB2.out.size hbs) (fun k hk => Nat.lt_of_lt_of_le (HLT.out k hk) hbs)); have HB5 := Lib.hid (HBB2.out.trans (hb.mono HBB2.out.size)); have HV := Lib.hid hv; obtain ⟨N, hN⟩ : ∃ N, V.length = N := ⟨_, rfl⟩; rw [hN]; have HN := Lib.hid hN; clear hv hh hbs hb hN)
              | (at_builtin; go_loud (refine appG_told lnK Tryd.underlying32 infoStH rfl rfl _ _ rfl w10.heap.size _ A rfl (HK5.out.own_.alloc _) (some ⟨w5.heap.size, 0, none⟩) 1 1 [headL p true false] rfl (oneG w5 (headL p true false) trivial 9 _ HCS.out) (by have h1 := HAL.out; have h2 := HPN.out; have h3 := HIN.out; omega) (by have := HB5.out.size; simp; omega) (A.length + 1) rfl ?_); intro a6 c6 w6 ho hg ht; have HK6 := Lib.hid ((HK5.out.below ((Below.refl _ _).alloc (Nat.le_refl _) _)).grow ho hg ht); have HB6 := Lib.hid ((HB5.out.alloc HB5.out.size _).grown hg (by have := HB5.out.size; simp; omega) (fun k h => (HK5.out.own_.lt k h).1)); clear ho hg ht))
            clear HK5 HB5
            go_loopg [9, 89] N (fun gq v9 v89 W => ∃ (k : Nat) (a7 : Option Addr) (n7 c7 : Nat), v89 = .int .i64 (k : Nat) ∧ v9 = .slice a7 n7 c7 ∧ Hid (gq + k = N) ∧ Hid (HkB W w10.heap.size a5 c5 V (.slice a7 n7 c7) (A ++ (headL p true false :: toldF (Z.take k)))) ∧ Hid (Below w10.heap.size w10 W))
            case atStart => exact ⟨0, a6, _, c6, rfl, rfl, Lib.hid rfl, HK6, HB6⟩
            case round =>
              clear HK6 HB6
              obtain ⟨k, a7, n7, c7, rfl, rfl, HKI, HKB, HBK⟩ := hrel
              by_cases hk : (k : Int) < (N : Int)
              · have hkV : k < V.length := by have := HN.out; omega
                obtain ⟨g, n9, a9, c9, rfl, g0, g1, g2, hA9⟩ := HKB.out.at_ hkV
                have hkZ : k < Z.length := by rw [← HV.out, List.length_map]; exact hkV
                have hz1 : (gd V k).1 = Z.getD k default := by
                  rw [← HV.out]; unfold gd; simp [List.getD_eq_getElem?_getD, hkV]
                obtain ⟨⟨f, t, ls⟩, hy⟩ : ∃ y, Z.getD k default = y := ⟨_, rfl⟩
                have hsm := HSM.out.2 _ (getD_mem (d := default) hkZ)
                have HTS : Hid (toldF (Z.take (k + 1)) = toldF (Z.take k) ++ tellF f t ls) := Lib.hid (by rw [told_snoc Z k hkZ, hy])
                rw [hz1, hy] at g0 g1 hA9
                rw [hy] at hsm
                have HSY : Hid (f ≤ 9000000000 ∧ t ≤ 9000000000 ∧ ls.length ≤ 8192 ∧ (∀ s ∈ ls, s.length ≤ 4000000001)) := Lib.hid ⟨by have := hsm.1; simp only at this; omega, by have := hsm.2.1; simp only at this; omega, hsm.2.2.1, hsm.2.2.2⟩
                have HA9 := Lib.hid hA9
                have HTL : Hid ((A ++ (headL p true false :: toldF (Z.take k))).length ≤ i * 67117057 + 67117057) := Lib.hid (by
                  have h1 := HAL.out
                  have h2 := gd_told (B := 4000000000) (V := Z.take k) ⟨by rw [List.length_take]; have := HSM.out.1; omega, fun x hx => HSM.out.2 x (List.mem_of_mem_take hx)⟩
                  rw [List.length_append, List.length_cons]; omega)
                have HTL2 : Hid ((tellF f t ls).length = ls.length + 1) := Lib.hid (by unfold tellF; rw [List.length_cons, List.length_map])
                have HKN : Hid (k < N) := Lib.hid (by omega)
                have hk0 : (0 : Int) ≤ (k : Int) := by omega
                have W2 : IntKind.i64.wrap ((k : Int) + 1) = (k : Int) + 1 := IntWalk.i64_in _ (by have h1 := HSM.out.1; have h2 : Z.length ≤ 8192 := h1; omega)
                obtain ⟨wC, hwC⟩ : ∃ W, wr.alloc (.cells #[.int .i64 (f : Nat), .int .i64 (t : Nat), .slice a9 n9 c9] HunkT) = W := ⟨_, rfl⟩
                have hbC : Below wr.heap.size wr wC := hwC ▸ (Below.refl _ _).alloc (Nat.le_refl _) _
                have HKC := Lib.hid (HKB.out.below hbC)
                have HAC := Lib.hid (HA9.out.below hbC)
                have HBC := Lib.hid (HBK.out.trans (hbC.mono HBK.out.size))
                have eC : wC.heap[wr.heap.size]? = some (.cells #[.int .i64 (f : Nat), .int .i64 (t : Nat), .slice a9 n9 c9] HunkT (0, 0)) := hwC ▸ heap_alloc_new wr _
                have l0 : wC.cell? ⟨wr.heap.size, 0, none⟩ = some (.int .i64 (f : Nat)) := by rw [cell_of_row _ _ _ _ _ _ eC]; rfl
                have l1 : wC.cell? ⟨wr.heap.size, 1, none⟩ = some (.int .i64 (t : Nat)) := by rw [cell_of_row _ _ _ _ _ _ eC]; rfl
                have l2 : wC.cell? ⟨wr.heap.size, 2, none⟩ = some (.slice a9 n9 c9) := by rw [cell_of_row _ _ _ _ _ _ eC]; rfl
                clear hkV hkZ hz1 hsm hy hA9 eC hbC
                go_wp2_with (first
                  | (go_at_call 31; go_must (refine (tell_any f t n9 c9 a9 ls wC HSY.out.1 HSY.out.2.1 (by have h1 : ls.length = n9 := HAC.out.1; have h2 := HSY.out.2.2.1; omega) HAC.out HSY.out.2.2.2 (HTT.out.below HBC.out)).mono ?_); rintro e w7 ⟨a10, n11, c11, rfl, ha, hb⟩; have HA7 := Lib.hid ha; have HK7 := Lib.hid (HKC.out.below hb); have HB7 := Lib.hid (HBC.out.trans (hb.mono HBC.out.size)); clear ha hb)
                  | (at_builtin; obtain ⟨M, hM⟩ : ∃ M, (A ++ (headL p true false :: toldF (Z.take k))).length + n11 = M := ⟨_, rfl⟩; go_loud (refine appG_told lnK Tryd.underlying32 infoStH rfl rfl _ _ rfl w10.heap.size _ (A ++ (headL p true false :: toldF (Z.take k))) rfl HK7.out.own_ a10 n11 c11 (tellF f t ls) rfl HA7.out (by have h1 := HTL.out; have h2 := HTL2.out; have h3 := HA7.out.1; have h4 := HSY.out.2.2.1; have h5 := HPN.out; have h6 := HIN.out; omega) HB7.out.size M hM.symm ?_); clear hM; intro a8' c8' w8 ho hg ht; have HK8 := Lib.hid (HK7.out.grow ho hg ht); have HB8 := Lib.hid (HB7.out.grown hg HB7.out.size (fun k h => (HK7.out.own_.lt k h).1)); clear ho hg ht))
                go_roundg (gk - 1)
                case measure => have h1 := HKI.out; have h2 := HKN.out; omega
                case rel => exact ⟨k + 1, a8', _, c8', by go_num, rfl, Lib.hid (by have h1 := HKI.out; have h2 := HKN.out; omega), Lib.hid (by rw [HTS.out]; have h1 := HK8.out; rw [List.append_assoc, List.cons_append] at h1; exact h1), HB8⟩
              · have hkN : k = N := by have := HKI.out; omega
                have hZk : Z.take k = Z := List.take_of_length_le (by rw [← HV.out, List.length_map, HN.out, hkN]; exact Nat.le_refl _)
                have HE := Lib.hid HKB.out.own_
                rw [hZk] at HE
                have HEL : Hid ((A ++ (headL p true false :: toldF Z)).length ≤ (i + 1) * 67117057) := Lib.hid (by
                  have h1 := HAL.out
                  have h2 := gd_told HSM.out
                  rw [List.length_append, List.length_cons, Nat.succ_mul]; omega)
                clear hkN hZk
                go_wp2
                go_roundg (n10 - (i + 1))
                case measure => have h1 := HI.out; have h2 := HIN.out; omega
                case rel => exact ⟨i + 1, a7, n7, c7, _, by go_num, rfl, Lib.hid (by have h1 := HI.out; have h2 := HIN.out; omega), HRR, HE, HEL, HBK⟩
          · have hr1 : ((r : Int) == 0) = false := by rw [beq_eq_false_iff_ne]; omega
            have hr2 : ¬ ((r : Int) = 0) := by omega
            have HRR : Hid (([], r) = R) := Lib.hid (by have h1 := HGS.out; rw [HFE.out, if_neg hr] at h1; simpa [hr] using h1)
            clear HGS HFE
            go_wp2_with (first
              | ((with_reducible show wpList _ _ _ (⟨some 45, _, _, _, _, _⟩ :: _) _ _); go_must (refine wl_exN rfl (exec_lookB HXW.out _ _ rfl rfl p HPP.out rfl _ HQ1.out p1 b1 HF1.out) ?_))
              | ((with_reducible show wpList _ _ _ (⟨some 51, _, _, _, _, _⟩ :: _) _ _); go_must (refine wl_exN rfl (exec_lookB HYW.out _ _ rfl rfl p HPP.out rfl _ HQ2.out p2 b2 HF2.out) ?_))
              | (go_at_call 8; (with_reducible refine (topN HZ.out wB HBB.out.1 HBB.out.2 (HTT.out.below HBB2.out).tabs).mono ?_); rintro e w5 ⟨a5, c5, base, V, rfl, hv, hh, hbs, hb⟩; have HB5 := Lib.hid (HBB2.out.trans (hb.mono HBB2.out.size)); clear hv hh hbs hb))
            go_ret2
            exact ⟨none, 0, 0, by rw [← HRR.out]; rfl, by rw [← HRR.out]; exact AtG.nil, HB.out.trans (HB5.out.mono HB.out.size)⟩
        | true =>
          by_cases hbb : b1 = b2
          · subst hbb
            have HRR : Hid (goL X Y A (P.drop (i + 1)) = R) := Lib.hid (by have h1 := HGS.out; rw [file_eq HQ1.out HQ2.out HF1.out HF2.out] at h1; simpa using h1)
            have HEL : Hid (A.length ≤ (i + 1) * 67117057) := Lib.hid (by have h1 := HAL.out; exact Nat.le_trans h1 (Nat.mul_le_mul_right _ (Nat.le_succ i)))
            clear HGS HFN HZ HSM
            go_wp2_with (first
              | ((with_reducible show wpList _ _ _ (⟨some 45, _, _, _, _, _⟩ :: _) _ _); go_must (refine wl_exN rfl (exec_lookB HXW.out _ _ rfl rfl p HPP.out rfl _ HQ1.out p1 b1 HF1.out) ?_))
              | ((with_reducible show wpList _ _ _ (⟨some 51, _, _, _, _, _⟩ :: _) _ _); go_must (refine wl_exN rfl (exec_lookB HYW.out _ _ rfl rfl p HPP.out rfl _ HQ2.out p2 b1 HF2.out) ?_)))
            go_roundg (gk - 1)
            case measure => have h1 := HI.out; have h2 := HIN.out; omega
            case rel => exact ⟨i + 1, a4, n4, c4, A, by go_num, rfl, Lib.hid (by have h1 := HI.out; have h2 := HIN.out; omega), HRR, HOB, HEL, HBB2⟩
          · have hlt : (strB b1).toList == (strB b2).toList → b1 = b2 := fun h => by rw [Lib.toList_data, Lib.toList_data, strB_list, strB_list] at h; exact beq_iff_eq.1 h
            have hbn : (b1 == b2) = false := by rw [beq_eq_false_iff_ne]; exact hbb
            have HFE := Lib.hid (HFN.out (by rw [hbn]; rfl))
            have HT3 : Hid (strB (headL p true true) = T1) := Lib.hid (by rw [← HT1.out]; show strB (([102, 105, 108, 101, 32] ++ p) ++ []) = _; rw [List.append_nil])
            clear HFN HT1
            have HT1 := HT3
            have hbt : ((strB b1).toList == (strB b2).toList) = false := by cases hx : ((strB b1).toList == (strB b2).toList) with | false => rfl | true => exact absurd (hlt hx) hbb
            clear hlt hbb hbn
            by_cases hr : r = 0
            · subst hr
              have HRR : Hid (goL X Y (A ++ (headL p true true :: toldF Z)) (P.drop (i + 1)) = R) := Lib.hid (by have h1 := HGS.out; rw [HFE.out, if_pos rfl] at h1; simpa using h1)
              have HCS : Hid (#[Value.string T1] = (lnK.cells (headL p true true)).toArray) := Lib.hid (by rw [← HT1.out]; rfl)
              clear HGS HFE
              go_wp2_with (first
                | ((with_reducible show wpList _ _ _ (⟨some 45, _, _, _, _, _⟩ :: _) _ _); go_must (refine wl_exN rfl (exec_lookB HXW.out _ _ rfl rfl p HPP.out rfl _ HQ1.out p1 b1 HF1.out) ?_))
                | ((with_reducible show wpList _ _ _ (⟨some 51, _, _, _, _, _⟩ :: _) _ _); go_must (refine wl_exN rfl (exec_lookB HYW.out _ _ rfl rfl p HPP.out rfl _ HQ2.out p2 b2 HF2.out) ?_))
                | (go_at_call 8; (with_reducible refine (top0 HZ.out wB HBB.out.1 HBB.out.2 (HTT.out.below HBB2.out).tabs).mono ?_); rintro e w5 ⟨a5, c5, base, V, rfl, hv, hh, hbs, hb⟩; have HK5 := Lib.hid (HkB.of hh (HOB.out.below hb) (Nat.le_trans HBB2.out.size hbs) (fun k hk => Nat.lt_of_lt_of_le (HLT.out k hk) hbs)); have HB5 := Lib.hid (HBB2.out.trans (hb.mono HBB2.out.size)); have HV := Lib.hid hv; obtain ⟨N, hN⟩ : ∃ N, V.length = N := ⟨_, rfl⟩; rw [hN]; have HN := Lib.hid hN; clear hv hh hbs hb hN)
                | (at_builtin; go_loud (refine appG_told lnK Tryd.underlying32 infoStH rfl rfl _ _ rfl w10.heap.size _ A rfl (HK5.out.own_.alloc _) (some ⟨w5.heap.size, 0, none⟩) 1 1 [headL p true true] rfl (oneG w5 (headL p true true) trivial 9 _ HCS.out) (by have h1 := HAL.out; have h2 := HPN.out; have h3 := HIN.out; omega) (by have := HB5.out.size; simp; omega) (A.length + 1) rfl ?_); intro a6 c6 w6 ho hg ht; have HK6 := Lib.hid ((HK5.out.below ((Below.refl _ _).alloc (Nat.le_refl _) _)).grow ho hg ht); have HB6 := Lib.hid ((HB5.out.alloc HB5.out.size _).grown hg (by have := HB5.out.size; simp; omega) (fun k h => (HK5.out.own_.lt k h).1)); clear ho hg ht))
              clear HK5 HB5
              go_loopg [9, 89] N (fun gq v9 v89 W => ∃ (k : Nat) (a7 : Option Addr) (n7 c7 : Nat), v89 = .int .i64 (k : Nat) ∧ v9 = .slice a7 n7 c7 ∧ Hid (gq + k = N) ∧ Hid (HkB W w10.heap.size a5 c5 V (.slice a7 n7 c7) (A ++ (headL p true true :: toldF (Z.take k)))) ∧ Hid (Below w10.heap.size w10 W))
              case atStart => exact ⟨0, a6, _, c6, rfl, rfl, Lib.hid rfl, HK6, HB6⟩
              case round =>
                clear HK6 HB6
                obtain ⟨k, a7, n7, c7, rfl, rfl, HKI, HKB, HBK⟩ := hrel
                by_cases hk : (k : Int) < (N : Int)
                · have hkV : k < V.length := by have := HN.out; omega
                  obtain ⟨g, n9, a9, c9, rfl, g0, g1, g2, hA9⟩ := HKB.out.at_ hkV
                  have hkZ : k < Z.length := by rw [← HV.out, List.length_map]; exact hkV
                  have hz1 : (gd V k).1 = Z.getD k default := by
                    rw [← HV.out]; unfold gd; simp [List.getD_eq_getElem?_getD, hkV]
                  obtain ⟨⟨f, t, ls⟩, hy⟩ : ∃ y, Z.getD k default = y := ⟨_, rfl⟩
                  have hsm := HSM.out.2 _ (getD_mem (d := default) hkZ)
                  have HTS : Hid (toldF (Z.take (k + 1)) = toldF (Z.take k) ++ tellF f t ls) := Lib.hid (by rw [told_snoc Z k hkZ, hy])
                  rw [hz1, hy] at g0 g1 hA9
                  rw [hy] at hsm
                  have HSY : Hid (f ≤ 9000000000 ∧ t ≤ 9000000000 ∧ ls.length ≤ 8192 ∧ (∀ s ∈ ls, s.length ≤ 4000000001)) := Lib.hid ⟨by have := hsm.1; simp only at this; omega, by have := hsm.2.1; simp only at this; omega, hsm.2.2.1, hsm.2.2.2⟩
                  have HA9 := Lib.hid hA9
                  have HTL : Hid ((A ++ (headL p true true :: toldF (Z.take k))).length ≤ i * 67117057 + 67117057) := Lib.hid (by
                    have h1 := HAL.out
                    have h2 := gd_told (B := 4000000000) (V := Z.take k) ⟨by rw [List.length_take]; have := HSM.out.1; omega, fun x hx => HSM.out.2 x (List.mem_of_mem_take hx)⟩
                    rw [List.length_append, List.length_cons]; omega)
                  have HTL2 : Hid ((tellF f t ls).length = ls.length + 1) := Lib.hid (by unfold tellF; rw [List.length_cons, List.length_map])
                  have HKN : Hid (k < N) := Lib.hid (by omega)
                  have hk0 : (0 : Int) ≤ (k : Int) := by omega
                  have W2 : IntKind.i64.wrap ((k : Int) + 1) = (k : Int) + 1 := IntWalk.i64_in _ (by have h1 := HSM.out.1; have h2 : Z.length ≤ 8192 := h1; omega)
                  obtain ⟨wC, hwC⟩ : ∃ W, wr.alloc (.cells #[.int .i64 (f : Nat), .int .i64 (t : Nat), .slice a9 n9 c9] HunkT) = W := ⟨_, rfl⟩
                  have hbC : Below wr.heap.size wr wC := hwC ▸ (Below.refl _ _).alloc (Nat.le_refl _) _
                  have HKC := Lib.hid (HKB.out.below hbC)
                  have HAC := Lib.hid (HA9.out.below hbC)
                  have HBC := Lib.hid (HBK.out.trans (hbC.mono HBK.out.size))
                  have eC : wC.heap[wr.heap.size]? = some (.cells #[.int .i64 (f : Nat), .int .i64 (t : Nat), .slice a9 n9 c9] HunkT (0, 0)) := hwC ▸ heap_alloc_new wr _
                  have l0 : wC.cell? ⟨wr.heap.size, 0, none⟩ = some (.int .i64 (f : Nat)) := by rw [cell_of_row _ _ _ _ _ _ eC]; rfl
                  have l1 : wC.cell? ⟨wr.heap.size, 1, none⟩ = some (.int .i64 (t : Nat)) := by rw [cell_of_row _ _ _ _ _ _ eC]; rfl
                  have l2 : wC.cell? ⟨wr.heap.size, 2, none⟩ = some (.slice a9 n9 c9) := by rw [cell_of_row _ _ _ _ _ _ eC]; rfl
                  clear hkV hkZ hz1 hsm hy hA9 eC hbC
                  go_wp2_with (first
                    | (go_at_call 31; go_must (refine (tell_any f t n9 c9 a9 ls wC HSY.out.1 HSY.out.2.1 (by have h1 : ls.length = n9 := HAC.out.1; have h2 := HSY.out.2.2.1; omega) HAC.out HSY.out.2.2.2 (HTT.out.below HBC.out)).mono ?_); rintro e w7 ⟨a10, n11, c11, rfl, ha, hb⟩; have HA7 := Lib.hid ha; have HK7 := Lib.hid (HKC.out.below hb); have HB7 := Lib.hid (HBC.out.trans (hb.mono HBC.out.size)); clear ha hb)
                    | (at_builtin; obtain ⟨M, hM⟩ : ∃ M, (A ++ (headL p true true :: toldF (Z.take k))).length + n11 = M := ⟨_, rfl⟩; go_loud (refine appG_told lnK Tryd.underlying32 infoStH rfl rfl _ _ rfl w10.heap.size _ (A ++ (headL p true true :: toldF (Z.take k))) rfl HK7.out.own_ a10 n11 c11 (tellF f t ls) rfl HA7.out (by have h1 := HTL.out; have h2 := HTL2.out; have h3 := HA7.out.1; have h4 := HSY.out.2.2.1; have h5 := HPN.out; have h6 := HIN.out; omega) HB7.out.size M hM.symm ?_); clear hM; intro a8' c8' w8 ho hg ht; have HK8 := Lib.hid (HK7.out.grow ho hg ht); have HB8 := Lib.hid (HB7.out.grown hg HB7.out.size (fun k h => (HK7.out.own_.lt k h).1)); clear ho hg ht))
                  go_roundg (gk - 1)
                  case measure => have h1 := HKI.out; have h2 := HKN.out; omega
                  case rel => exact ⟨k + 1, a8', _, c8', by go_num, rfl, Lib.hid (by have h1 := HKI.out; have h2 := HKN.out; omega), Lib.hid (by rw [HTS.out]; have h1 := HK8.out; rw [List.append_assoc, List.cons_append] at h1; exact h1), HB8⟩
                · have hkN : k = N := by have := HKI.out; omega
                  have hZk : Z.take k = Z := List.take_of_length_le (by rw [← HV.out, List.length_map, HN.out, hkN]; exact Nat.le_refl _)
                  have HE := Lib.hid HKB.out.own_
                  rw [hZk] at HE
                  have HEL : Hid ((A ++ (headL p true true :: toldF Z)).length ≤ (i + 1) * 67117057) := Lib.hid (by
                    have h1 := HAL.out
                    have h2 := gd_told HSM.out
                    rw [List.length_append, List.length_cons, Nat.succ_mul]; omega)
                  clear hkN hZk
                  go_wp2
                  go_roundg (n10 - (i + 1))
                  case measure => have h1 := HI.out; have h2 := HIN.out; omega
                  case rel => exact ⟨i + 1, a7, n7, c7, _, by go_num, rfl, Lib.hid (by have h1 := HI.out; have h2 := HIN.out; omega), HRR, HE, HEL, HBK⟩
            · have hr1 : ((r : Int) == 0) = false := by rw [beq_eq_false_iff_ne]; omega
              have hr2 : ¬ ((r : Int) = 0) := by omega
              have HRR : Hid (([], r) = R) := Lib.hid (by have h1 := HGS.out; rw [HFE.out, if_neg hr] at h1; simpa [hr] using h1)
              clear HGS HFE
              go_wp2_with (first
                | ((with_reducible show wpList _ _ _ (⟨some 45, _, _, _, _, _⟩ :: _) _ _); go_must (refine wl_exN rfl (exec_lookB HXW.out _ _ rfl rfl p HPP.out rfl _ HQ1.out p1 b1 HF1.out) ?_))
                | ((with_reducible show wpList _ _ _ (⟨some 51, _, _, _, _, _⟩ :: _) _ _); go_must (refine wl_exN rfl (exec_lookB HYW.out _ _ rfl rfl p HPP.out rfl _ HQ2.out p2 b2 HF2.out) ?_))
                | (go_at_call 8; (with_reducible refine (topN HZ.out wB HBB.out.1 HBB.out.2 (HTT.out.below HBB2.out).tabs).mono ?_); rintro e w5 ⟨a5, c5, base, V, rfl, hv, hh, hbs, hb⟩; have HB5 := Lib.hid (HBB2.out.trans (hb.mono HBB2.out.size)); clear hv hh hbs hb))
              go_ret2
              exact ⟨none, 0, 0, by rw [← HRR.out]; rfl, by rw [← HRR.out]; exact AtG.nil, HB.out.trans (HB5.out.mono HB.out.size)⟩
    · have hin : i = n10 := by have := HI.out; omega
      have HE : Hid ((A, 0) = R) := Lib.hid (by have h1 := HG.out; rw [hin, List.drop_eq_nil_of_le (by rw [HPN.out.1]; exact Nat.le_refl _)] at h1; exact h1)
      clear hin
      go_wp2
      go_ret2
      rw [HRE.out]
      exact ⟨a4, n4, c4, by rw [← HE.out]; rfl, by rw [← HE.out]; exact HO.out.atG, HB.out.trans (HBW.out.mono HB.out.size)⟩
#print axioms lines_any
end Go.Proofs.YtfoalaoanpbmeaaDoor
