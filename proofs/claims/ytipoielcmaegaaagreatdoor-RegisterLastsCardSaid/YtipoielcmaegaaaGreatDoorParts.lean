/-
  The walk of Parts, and of Path.
-/
import Derived.Test.YtipoielcmaegaaaGreatDoorAuthor
import Derived.Test.YtipoielcmaegaaaGreatDoorPieces
namespace Go.Proofs.YtipoielcmaegaaaGreatDoor
open Go.RowKit

theorem Own1.iterAt {α : Type} {mk : α → Value} {E : TypeId} {w : World} {base : Nat} {v : Value} {L : List α} (h : Own1 mk E w base v L) {k : Nat} (hk : k < base) (s : ByteArray) (pos : Nat) : Own1 mk E (w.iterAt k s pos) base v L := by
  obtain ⟨h1, h2⟩ := h
  refine ⟨h1, ?_⟩
  rcases h2 with h2 | ⟨g, cap, cur, hv, hg, hh, r⟩
  · exact .inl h2
  · exact .inr ⟨g, cap, cur, hv, hg, by rw [Lib.iterAt_other w k g s pos (by omega)]; exact hh, r⟩

/-- What Parts tells. -/
def PartsIs (l : List UInt8) (w : World) (e : Ending) (w' : World) : Prop := ∃ a n c, e = .returned (.slice a n c) ∧ Own1 St 9 w' w.heap.size (.slice a n c) (partsF l) ∧ a.isSome = pathF l ∧ Below w.heap.size w w'
theorem PartsIs.no {l : List UInt8} {w w' : World} (h : pathF l = false) (hb : Below w.heap.size w w') : PartsIs l w (.returned (.slice none 0 0)) w' := by
  refine ⟨none, 0, 0, rfl, ?_, by rw [h]; rfl, hb⟩
  unfold partsF
  rw [h]
  exact Own1.nil

theorem good_next {l : List (List UInt8)} {j : Nat} (hj : j < l.length) (h : goodParts (l.take j) = true) (hb : badPart (l.getD j default) = false) : goodParts (l.take (j + 1)) = true := by
  unfold goodParts at h ⊢
  rw [List.take_succ_eq_append_getElem hj, List.all_append, h]
  simp [hj] at hb ⊢
  exact hb
theorem good_no {l : List (List UInt8)} {j : Nat} (hj : j < l.length) (hb : badPart (l.getD j default) = true) : goodParts l = false := by
  unfold goodParts
  rw [← List.take_append_drop (j + 1) l, List.take_succ_eq_append_getElem hj, List.all_append, List.all_append]
  simp [hj] at hb
  simp [hb]
theorem pathF_no {l : List UInt8} (h : goodParts (pcs l) = false) : pathF l = false := by unfold pathF; rw [h]; simp

set_option maxRecDepth 100000 in
set_option maxHeartbeats 2000000 in
theorem parts_any (s : ByteArray) (w : World) (hs : s.size ≤ 140737488355328) (hT : Tabs w) :
    Calls Tryz.prog 51 #[.string s] w (PartsIs s.data.toList w) := by
  obtain ⟨sl, hsl⟩ : ∃ sl, sl = s.data.toList := ⟨_, rfl⟩
  have hlen : sl.length = s.size := by rw [hsl]; exact b_len s
  obtain ⟨c1, h1⟩ : ∃ c, (decide ((1 : Int) ≤ (s.size : Int)) && decide ((s.size : Int) ≤ 64)) = c := ⟨_, rfl⟩
  have H1 := Lib.hid (fun w => sized_is s 1 64 c1 w h1)
  obtain ⟨c2, h2⟩ : ∃ c, textOk s.data.toList = c := ⟨_, rfl⟩
  have H2 := Lib.hid (text_is s c2 w hs hT h2)
  obtain ⟨c3, h3⟩ : ∃ c, runesOk s.data.toList = c := ⟨_, rfl⟩
  have hd : (decide (1 ≤ s.size) && decide (s.size ≤ 64)) = c1 := by
    rw [← h1, Bool.eq_iff_iff]; simp; omega
  have hpf : pathF sl = (c1 && c3 && goodParts (pcs sl)) := by
    unfold pathF; rw [hlen, hd, hsl, h3]
  have h23 : c2 = false → c3 = false := by
    rintro rfl
    cases c3 with
    | false => rfl
    | true => rw [runesOk_text h3] at h2; cases h2
  rw [← hsl]
  have HP := Lib.hid hpf
  have HSL := Lib.hid hsl
  have HLEN := Lib.hid hlen
  clear hpf hsl hlen
  rcases c1
  · clear h1 h2 h3 h23 hs hT hd
    go_enter Tryz.func51, Tryz.ntmps51
    go_wp2_with (go_at_call 75; (with_reducible refine (H1.out _).mono ?_); rintro e w1 ⟨rfl, rfl⟩)
    go_ret
    exact PartsIs.no (by rw [HP.out]; rfl) (Below.refl _ _)
  · have hsz : 1 ≤ s.size ∧ s.size ≤ 64 := by simpa using hd
    rcases c2
    · have h3f := h23 rfl
      subst h3f
      clear h1 h2 h3 h23 hs hT hd
      go_enter Tryz.func51, Tryz.ntmps51
      go_wp2_with (first
        | (go_at_call 75; (with_reducible refine (H1.out _).mono ?_); rintro e w1 ⟨rfl, rfl⟩)
        | (go_at_call 76; (with_reducible refine H2.out.mono ?_); rintro e w1 ⟨rfl, hb1⟩))
      go_ret
      exact PartsIs.no (by rw [HP.out]; rfl) hb1
    · have H3 := Lib.hid (fun w => each_seen_is s c3 w h2 h3)
      rcases c3
      · clear h1 h2 h3 h23 hs hT hd
        go_enter Tryz.func51, Tryz.ntmps51
        go_wp2_with (first
          | (go_at_call 75; (with_reducible refine (H1.out _).mono ?_); rintro e w1 ⟨rfl, rfl⟩)
          | (go_at_call 76; (with_reducible refine H2.out.mono ?_); rintro e w1 ⟨rfl, hb1⟩)
          | (go_at_call 77; (with_reducible refine (H3.out _).mono ?_); rintro e w2 ⟨rfl, hb2⟩))
        go_ret
        exact PartsIs.no (by rw [HP.out]; rfl) (Below.step hb1 hb2)
      · obtain ⟨L, hL⟩ : ∃ L, runesF sl = (some L, sl.length) := by
          rw [HSL.out]
          rcases runesF_cases s.data.toList with ⟨L, hL⟩ | ⟨p, hL⟩
          · exact ⟨L, hL⟩
          · rw [textOk_none hL] at h2; cases h2
        have HL := Lib.hid hL
        have HI := Lib.hid (Inv.start sl)
        have HC0 := Lib.hid (show pcS sl 0 = ([], 0) from rfl)
        have HSZ := Lib.hid hsz
        clear h1 h2 h3 h23 hs hT hd hL hsz
        go_enter Tryz.func51, Tryz.ntmps51
        go_wp2_with (first
          | (go_at_call 75; (with_reducible refine (H1.out _).mono ?_); rintro e w1 ⟨rfl, rfl⟩)
          | (go_at_call 76; (with_reducible refine H2.out.mono ?_); rintro e w1 ⟨rfl, hb1⟩)
          | (go_at_call 77; (with_reducible refine (H3.out _).mono ?_); rintro e w2 ⟨rfl, hb2⟩; have hb3 := Below.step hb1 hb2; clear hb1 hb2))
        go_loopg [3, 4] s.size (fun g v3 v4 W => ∃ (p f : Nat) (out : List (List UInt8)) (acc : List Nat), Below w.heap.size w W ∧ W.heap[w2.heap.size]? = some (.stringIter s p) ∧ w2.heap.size + 1 ≤ W.heap.size ∧ Own1 St 9 W (w2.heap.size + 1) v3 out ∧ v4 = .int .i64 f ∧ g + p = s.size ∧ Hid (Inv sl p acc) ∧ Hid (pcS sl p = (out, f)))
        case atStart => exact ⟨0, 0, [], [], hb3.alloc hb3.size _, World.iter_heap w2 s 0, by simp [World.iter], Own1.nil, rfl, rfl, HI, HC0⟩
        case round =>
          obtain ⟨p, f, out, acc, hbw, hit, hsw, hown, rfl, hg, hinv, hpc⟩ := hrel
          have HG := Lib.hid hg
          have hfp : f ≤ p := by have := pcS_le sl p; rw [hpc.out] at this; exact this
          have hol : out.length ≤ p := by have := pcS_length sl p; rw [hpc.out] at this; exact this
          have hps : p ≤ s.size := by omega
          have hp64 : (p : Int) ≤ 64 := by have := HSZ.out; omega
          have hfs : f ≤ s.size := by omega
          have hfpI : (f : Int) ≤ (p : Int) := by omega
          have hpsI : (p : Int) ≤ (s.size : Int) := by omega
          have hfsI : (f : Int) ≤ (s.size : Int) := by omega
          have HOL := Lib.hid (show out.length ≤ 64 by have := HSZ.out; omega)
          have HB3 := Lib.hid hb3
          clear hol
          by_cases hp : p < s.size
          · obtain ⟨n, k, hdc⟩ := hinv.out.more HL.out (by rw [HLEN.out]; exact hp)
            obtain ⟨hn, hk1, hk4, hkl⟩ := dec_bounds hdc
            have HK := Lib.hid (show 1 ≤ k ∧ k ≤ s.size - p from ⟨hk1, by rw [List.length_drop, HLEN.out] at hkl; exact hkl⟩)
            have HI2 := Lib.hid (hinv.out.step hdc)
            have HRU := Lib.hid (pcS_rune hdc)
            rw [HSL.out] at hdc
            have hnx := fun ty => next_rune wr w2.heap.size s p n k ty hit hp hdc
            have HIT := Lib.hid (Lib.iterAt_heap wr w2.heap.size s p (p + k) hit)
            have HB2 := Lib.hid (Lib.below_iterAt hbw (k := w2.heap.size) hb3.size s (p + k))
            have HS2 := Lib.hid (show w2.heap.size + 1 ≤ (wr.iterAt w2.heap.size s (p + k)).heap.size by rw [Lib.iterAt_size]; exact hsw)
            have HO2 := Lib.hid (hown.iterAt (k := w2.heap.size) (by omega) s (p + k))
            have HPS := Lib.hid hp
            clear hdc hg hn hk1 hk4 hkl hit hbw hown hsw hb3
            by_cases h47 : (n : Int) = 47
            · have hn47 : n = 47 := by omega
              subst hn47
              obtain ⟨rfl, hat⟩ := HRU.out.1 rfl
              have HN := Lib.hid (show pcS sl (p + 1) = (out ++ [(s.extract f p).data.toList], p + 1) by
                rw [pcS_at hat, hpc.out, b_ext, HSL.out])
              clear hat
              generalize hW : wr.iterAt w2.heap.size s (p + 1) = W1 at HIT HB2 HS2 HO2 hnx
              clear hW
              go_wp2_with (first
                | ((with_reducible show wpList _ _ _ (⟨some 36, _, _, _, _, _⟩ :: _) _ _); go_must (refine app1 St (fun _ => rfl) Tryz.underlying50 infoSt rfl rfl (.tmp 30) (.tmp 35) rfl (w2.heap.size + 1) _ out rfl (HO2.out.alloc _) _ 1 1 [(s.extract f p).data.toList] rfl (one_str _ _ _) (by have := HOL.out; omega) (by have := HS2.out; simp; omega) _ rfl ?_); intro a3 c3 w3 hown3 hgr3; have HB4 := Lib.hid ((HB2.out.alloc HB2.out.size (.cells #[.string (s.extract f p)] 9)).grown hgr3 (by have := HB2.out.size; simp; omega) (fun q hq => Nat.le_trans (by have := HB3.out.size; omega) (HO2.out.lt q hq).1)); have HIT4 := Lib.hid (show w3.heap[w2.heap.size]? = some (.stringIter s (p + 1)) from (kept_block hgr3 (fun q hq => (HO2.out.lt q hq).1) (by have := HS2.out; simp; omega) (by omega)).trans ((Below.heap_alloc _ _ _ (by have := HS2.out; omega)).trans HIT.out)); have HS4 := Lib.hid (show w2.heap.size + 1 ≤ w3.heap.size from Nat.le_trans (by have := HS2.out; simp; omega) hgr3.size); have HO3 := Lib.hid hown3; clear hgr3 hown3))
              go_roundg (gk - 1)
              case measure => have := HG.out; have := HPS.out; omega
              case rel => exact ⟨p + 1, p + 1, _, _, HB4.out, HIT4.out, HS4.out, HO3.out, by go_num, by have := HG.out; have := HPS.out; omega, HI2, HN⟩
            · have HN := Lib.hid (show pcS sl (p + k) = (out, f) by rw [HRU.out.2 (by omega)]; exact hpc.out)
              go_wp2
              go_roundg (gk - k)
              case measure => have := HG.out; have := HK.out; omega
              case rel => exact ⟨p + k, f, out, _, HB2.out, HIT.out, HS2.out, HO2.out, rfl, by have := HG.out; have := HK.out; omega, HI2, HN⟩
          · have hpe : p = s.size := by omega
            have hnx := fun ty => Lib.run_next_end_at (P := Tryz.prog) wr w2.heap.size s p ty hit hp
            have HN := Lib.hid (show pcs sl = out ++ [(s.extract f s.size).data.toList] by
              unfold pcs
              rw [HLEN.out, ← hpe, hpc.out, b_ext, ← HSL.out, hpe, List.take_of_length_le (by rw [List.length_drop, HLEN.out]; omega)])
            obtain ⟨m, hm⟩ : ∃ m, m = (pcs sl).length := ⟨_, rfl⟩
            have HM := Lib.hid hm
            have hmo : m = out.length + 1 := by rw [hm, HN.out, List.length_append]; rfl
            have HMO := Lib.hid hmo
            have HML := Lib.hid (show m ≤ 65 by have := HOL.out; omega)
            have HBW := Lib.hid hbw
            have HOWN := Lib.hid (hown.mono (base' := w.heap.size) (by have := hb3.size; omega))
            have HG0 := Lib.hid (show goodParts ((pcs sl).take 0) = true from rfl)
            have hmI : (m : Int) ≤ 65 := by have := HML.out; omega
            have hm0 : (0 : Int) < (m : Int) := by have := HMO.out; omega
            clear hpe hg hp hit hbw hown hsw hm hmo hb3
            go_wp2_with (first
              | ((with_reducible show wpList _ _ _ (⟨some 44, _, _, _, _, _⟩ :: _) _ _); go_must (refine app1 St (fun _ => rfl) Tryz.underlying50 infoSt rfl rfl (.tmp 39) (.tmp 43) rfl w.heap.size _ out rfl (HOWN.out.alloc _) _ 1 1 [(s.extract f s.size).data.toList] rfl (one_str _ _ _) (by have := HOL.out; omega) (by have := HBW.out.size; simp; omega) m HMO.out ?_); intro a4 c4 w4 hown4 hgr4; have HB4 := Lib.hid ((HBW.out.alloc HBW.out.size (.cells #[.string (s.extract f s.size)] 9)).grown hgr4 (by have := HBW.out.size; simp; omega) (fun q hq => (HOWN.out.lt q hq).1)); have HO4 := Lib.hid (show Own1 St 9 w4 w.heap.size (.slice a4 m c4) (pcs sl) by rw [HN.out]; exact hown4); clear hgr4 hown4))
            go_loopg [47] m (fun g v47 W => ∃ j : Nat, w4 = W ∧ v47 = .int .i64 j ∧ g + j = m ∧ Hid (goodParts ((pcs sl).take j) = true))
            case atStart => exact ⟨0, rfl, rfl, rfl, HG0⟩
            case round =>
              obtain ⟨j, rfl, rfl, hg, hgood⟩ := hrel
              have HG := Lib.hid hg
              have hjI : (j : Int) ≤ (m : Int) := by omega
              have HA4 := Lib.hid HO4.out.at1
              by_cases hj : (j : Int) < (m : Int)
              · have hjm : j < m := by omega
                obtain ⟨b, o, rfl⟩ := HA4.out.some_ (by omega)
                obtain ⟨x, hx⟩ : ∃ x, x = (pcs sl).getD j default := ⟨_, rfl⟩
                have hc : w4.cell? ⟨b, o + j, none⟩ = some (.string (strB x)) := by rw [hx]; exact HA4.out.cell j hjm
                have hbad : badPart x = ((x == []) || (x == [46]) || (x == [46, 46])) := rfl
                obtain ⟨q0, hq0⟩ : ∃ q, (x == ([] : List UInt8)) = q := ⟨_, rfl⟩
                obtain ⟨q1, hq1⟩ : ∃ q, (x == [(46 : UInt8)]) = q := ⟨_, rfl⟩
                obtain ⟨q2, hq2⟩ : ∃ q, (x == [(46 : UInt8), 46]) = q := ⟨_, rfl⟩
                have e0 : ((strB x).toList == []) = q0 := by rw [Lib.toList_data, strB_list]; exact hq0
                have e1 : ((strB x).toList == [46]) = q1 := by rw [Lib.toList_data, strB_list]; exact hq1
                have e2 : ((strB x).toList == [46, 46]) = q2 := by rw [Lib.toList_data, strB_list]; exact hq2
                rw [hq0, hq1, hq2] at hbad
                have HBAD := Lib.hid hbad
                have HX := Lib.hid hx
                have HJM := Lib.hid (show j < (pcs sl).length by rw [← HM.out]; exact hjm)
                generalize hS : strB x = xs at hc e0 e1 e2
                clear hbad hq0 hq1 hq2 hS hx hg hjm
                by_cases hany : (q0 || q1 || q2) = true
                · have HNO := Lib.hid (show pathF sl = false from pathF_no (good_no HJM.out (by rw [← HX.out, HBAD.out]; exact hany)))
                  rcases q0 <;> rcases q1 <;> rcases q2
                  · simp at hany
                  all_goals
                    clear hany
                    go_wp2
                    go_ret
                    exact PartsIs.no HNO.out HB4.out
                · have hq : q0 = false ∧ q1 = false ∧ q2 = false := by
                    have : (q0 = false ∧ q1 = false) ∧ q2 = false := by simpa using hany
                    exact ⟨this.1.1, this.1.2, this.2⟩
                  obtain ⟨rfl, rfl, rfl⟩ := hq
                  have HN2 := Lib.hid (good_next HJM.out hgood.out (by rw [← HX.out, HBAD.out]; rfl))
                  clear hany
                  go_wp2
                  go_roundg (gk - 1)
                  case measure => have := HG.out; have := HJM.out; have := HM.out; omega
                  case rel => exact ⟨j + 1, rfl, by go_num, by have := HG.out; have := HJM.out; have := HM.out; omega, HN2⟩
              · have HE := Lib.hid (show pathF sl = true by
                  have h1 := hgood.out
                  rw [List.take_of_length_le (by have := HM.out; omega)] at h1
                  rw [HP.out, h1]; rfl)
                clear hg
                go_wp2
                go_ret
                refine ⟨a4, m, c4, rfl, ?_, ?_, HB4.out⟩
                · unfold partsF
                  rw [if_pos HE.out]; exact HO4.out
                · obtain ⟨g, hg, _⟩ := HO4.out.row (by have := HMO.out; omega)
                  rw [hg, HE.out]; rfl
#print axioms parts_any
end Go.Proofs.YtipoielcmaegaaaGreatDoor
