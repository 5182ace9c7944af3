/-
  The law HunkFiles, walked.
-/
import Derived.Test.YtfoalaoanpbmeaaDoorGrp15
import Derived.Test.YtfoalaoanpbmeaaDoorHkRefL
namespace Go.Proofs.YtfoalaoanpbmeaaDoor
open Go.RowKit Go.Lib

theorem fl_files {w : World} {a : Option Addr} {n c : Nat} {L : List FileL} (h : AtG flK w a n c L) : FilesAt w a n c L := by
  obtain ⟨h1, h2, h3, _, h4⟩ := h
  refine ⟨h1, h2, h3, ?_⟩
  rcases h4 with h4 | ⟨b, off, ha, hc⟩
  · exact .inl h4
  · exact .inr ⟨b, off, ha, fun j hj => ⟨hc j hj 0 _ rfl, hc j hj 1 _ rfl⟩⟩
theorem files_cut {L : List FileL} {n : Nat} (hn : L.length = n) (h : ∀ j, j < n → (gd L j).1.length ≤ 100 ∧ (gd L j).2.length ≤ 200) : ∀ f ∈ L, f.1.length ≤ 100 ∧ f.2.length ≤ 200 := fun f hf => by
  obtain ⟨j, hj, rfl⟩ := List.mem_iff_getElem.1 hf
  have h1 := h j (by omega)
  have e : gd L j = L[j] := by unfold gd; rw [List.getD_eq_getElem?_getD, List.getElem?_eq_getElem hj]; rfl
  rw [e] at h1
  exact h1
set_option maxRecDepth 100000 in
set_option maxHeartbeats 4000000 in
theorem hunkFiles_any (a a' : Option Addr) (n c n' c' : Nat) (L L' : List FileL) (w : World) (hL : FilesAt w a n c L) (hL' : FilesAt w a' n' c' L') (hT : HTabs w) :
    Calls Tryd.prog 4 #[.slice a n c, .slice a' n' c'] w fun e w' => e = .returned (.bool true) ∧ Below w.heap.size w w' := by
  have HT := Lib.hid hT
  have HF1 := Lib.hid hL
  have HF2 := Lib.hid hL'
  clear hT hL hL'
  by_cases hbig : (12 : Int) < (n : Int)
  · have d1 : decide ((12 : Int) < (n : Int)) = true := decide_eq_true hbig
    have d1n : decide (12 < n) = true := decide_eq_true (by omega)
    clear hbig
    go_enter Tryd.func4, Tryd.ntmps4
    go_wp2
    go_ret
    exact ⟨rfl, Below.refl _ _⟩
  by_cases hbig2 : (12 : Int) < (n' : Int)
  · have d1 : decide ((12 : Int) < (n : Int)) = false := decide_eq_false hbig
    have d1n : decide (12 < n) = false := decide_eq_false (by omega)
    have d2 : decide ((12 : Int) < (n' : Int)) = true := decide_eq_true hbig2
    have d2n : decide (12 < n') = true := decide_eq_true (by omega)
    clear hbig hbig2
    go_enter Tryd.func4, Tryd.ntmps4
    go_wp2
    go_ret
    exact ⟨rfl, Below.refl _ _⟩
  have d1 : decide ((12 : Int) < (n : Int)) = false := decide_eq_false hbig
  have d1n : decide (12 < n) = false := decide_eq_false (by omega)
  have d2 : decide ((12 : Int) < (n' : Int)) = false := decide_eq_false hbig2
  have d2n : decide (12 < n') = false := decide_eq_false (by omega)
  have HN : Hid (n ≤ 12 ∧ n' ≤ 12 ∧ L.length = n ∧ L'.length = n') := Lib.hid ⟨by omega, by omega, HF1.out.1, HF2.out.1⟩
  clear hbig hbig2
  go_enter Tryd.func4, Tryd.ntmps4
  go_wp2
  clear d1 d1n d2 d2n
  go_loopg [5] n (fun gk v5 W => ∃ i : Nat, v5 = .int .i64 (i : Nat) ∧ Hid (gk + i = n) ∧ Hid (Below w.heap.size w W) ∧ Hid (∀ j, j < i → (gd L j).1.length ≤ 100 ∧ (gd L j).2.length ≤ 200))
  case atStart => exact ⟨0, rfl, Lib.hid rfl, Lib.hid (Below.refl _ _), Lib.hid (fun j hj => absurd hj (Nat.not_lt_zero _))⟩
  case round =>
    obtain ⟨i, rfl, HI, HB, HS⟩ := hrel
    have hi0 : (0 : Int) ≤ (i : Int) := by omega
    by_cases hi : (i : Int) < (n : Int)
    · have HIN : Hid (i < n) := Lib.hid (by omega)
      obtain ⟨b, off, rfl⟩ := HF1.out.some_ (by omega)
      obtain ⟨x0, x1⟩ := fl_cell (atg_fl (HF1.out.below HB.out)) (j := i) HIN.out
      obtain ⟨⟨p, r⟩, hf⟩ : ∃ f, gd L i = f := ⟨_, rfl⟩
      rw [hf] at x0 x1
      have HFI := Lib.hid hf
      have W1 : IntKind.i64.wrap ((i : Int) + 1) = (i : Int) + 1 := IntWalk.i64_in _ (by have := HN.out; omega)
      obtain ⟨pz, hpz⟩ : ∃ z, (strB p).size = z := ⟨_, rfl⟩
      obtain ⟨rz, hrz⟩ : ∃ z, (strB r).size = z := ⟨_, rfl⟩
      have HPZ : Hid (p.length = pz) := Lib.hid (by rw [← hpz, strB_size])
      have HRZ : Hid (r.length = rz) := Lib.hid (by rw [← hrz, strB_size])
      clear hf
      by_cases h2 : (200 : Int) < (rz : Int)
      · have e2 : decide (200 < rz) = true := decide_eq_true (by omega)
        have e2i : decide ((200 : Int) < (rz : Int)) = true := decide_eq_true h2
        clear h2
        go_wp2
        go_ret
        exact ⟨rfl, HB.out⟩
      · have e2 : decide (200 < rz) = false := decide_eq_false (by omega)
        have e2i : decide ((200 : Int) < (rz : Int)) = false := decide_eq_false h2
        by_cases h1 : (100 : Int) < (pz : Int)
        · have e1 : decide (100 < pz) = true := decide_eq_true (by omega)
          have e1i : decide ((100 : Int) < (pz : Int)) = true := decide_eq_true h1
          clear h1 h2
          go_wp2
          go_ret
          exact ⟨rfl, HB.out⟩
        · have e1 : decide (100 < pz) = false := decide_eq_false (by omega)
          have e1i : decide ((100 : Int) < (pz : Int)) = false := decide_eq_false h1
          have HS2 : Hid (∀ j, j < i + 1 → (gd L j).1.length ≤ 100 ∧ (gd L j).2.length ≤ 200) := Lib.hid (fun j hj => by
            rcases Nat.lt_or_ge j i with hj2 | hj2
            · exact HS.out j hj2
            · have : j = i := by omega
              subst this
              rw [HFI.out]
              have := HPZ.out; have := HRZ.out
              exact ⟨by show p.length ≤ 100; omega, by show r.length ≤ 200; omega⟩)
          clear h1 h2
          go_wp2
          go_roundg (gk - 1)
          case measure => have h1 := HI.out; have h2 := HIN.out; omega
          case rel => exact ⟨i + 1, by go_num, Lib.hid (by have h1 := HI.out; have h2 := HIN.out; omega), HB, HS2⟩
    · have HSA : Hid (∀ f ∈ L, f.1.length ≤ 100 ∧ f.2.length ≤ 200) := Lib.hid (files_cut HN.out.2.2.1 (fun j hj => HS.out j (by omega)))
      clear HS HI
      go_wp2
      go_loopg [6] n' (fun gq v6 W => ∃ i : Nat, v6 = .int .i64 (i : Nat) ∧ Hid (gq + i = n') ∧ Hid (Below w.heap.size w W) ∧ Hid (∀ j, j < i → (gd L' j).1.length ≤ 100 ∧ (gd L' j).2.length ≤ 200))
      case atStart => exact ⟨0, rfl, Lib.hid rfl, HB, Lib.hid (fun j hj => absurd hj (Nat.not_lt_zero _))⟩
      case round =>
        clear HB hi hi0
        obtain ⟨i, rfl, HI, HB, HS⟩ := hrel
        have hi0 : (0 : Int) ≤ (i : Int) := by omega
        by_cases hi : (i : Int) < (n' : Int)
        · have HIN : Hid (i < n') := Lib.hid (by omega)
          obtain ⟨b, off, rfl⟩ := HF2.out.some_ (by omega)
          obtain ⟨x0, x1⟩ := fl_cell (atg_fl (HF2.out.below HB.out)) (j := i) HIN.out
          obtain ⟨⟨p, r⟩, hf⟩ : ∃ f, gd L' i = f := ⟨_, rfl⟩
          rw [hf] at x0 x1
          have HFI := Lib.hid hf
          have W1 : IntKind.i64.wrap ((i : Int) + 1) = (i : Int) + 1 := IntWalk.i64_in _ (by have := HN.out; omega)
          obtain ⟨pz, hpz⟩ : ∃ z, (strB p).size = z := ⟨_, rfl⟩
          obtain ⟨rz, hrz⟩ : ∃ z, (strB r).size = z := ⟨_, rfl⟩
          have HPZ : Hid (p.length = pz) := Lib.hid (by rw [← hpz, strB_size])
          have HRZ : Hid (r.length = rz) := Lib.hid (by rw [← hrz, strB_size])
          clear hf
          by_cases h2 : (200 : Int) < (rz : Int)
          · have e2 : decide (200 < rz) = true := decide_eq_true (by omega)
            have e2i : decide ((200 : Int) < (rz : Int)) = true := decide_eq_true h2
            clear h2
            go_wp2
            go_ret
            exact ⟨rfl, HB.out⟩
          · have e2 : decide (200 < rz) = false := decide_eq_false (by omega)
            have e2i : decide ((200 : Int) < (rz : Int)) = false := decide_eq_false h2
            by_cases h1 : (100 : Int) < (pz : Int)
            · have e1 : decide (100 < pz) = true := decide_eq_true (by omega)
              have e1i : decide ((100 : Int) < (pz : Int)) = true := decide_eq_true h1
              clear h1 h2
              go_wp2
              go_ret
              exact ⟨rfl, HB.out⟩
            · have e1 : decide (100 < pz) = false := decide_eq_false (by omega)
              have e1i : decide ((100 : Int) < (pz : Int)) = false := decide_eq_false h1
              have HS2 : Hid (∀ j, j < i + 1 → (gd L' j).1.length ≤ 100 ∧ (gd L' j).2.length ≤ 200) := Lib.hid (fun j hj => by
                rcases Nat.lt_or_ge j i with hj2 | hj2
                · exact HS.out j hj2
                · have : j = i := by omega
                  subst this
                  rw [HFI.out]
                  have := HPZ.out; have := HRZ.out
                  exact ⟨by show p.length ≤ 100; omega, by show r.length ≤ 200; omega⟩)
              clear h1 h2
              go_wp2
              go_roundg (n' - (i + 1))
              case measure => have h1 := HI.out; have h2 := HIN.out; omega
              case rel => exact ⟨i + 1, by go_num, Lib.hid (by have h1 := HI.out; have h2 := HIN.out; omega), HB, HS2⟩
        · have HSB : Hid (∀ f ∈ L', f.1.length ≤ 100 ∧ f.2.length ≤ 200) := Lib.hid (files_cut HN.out.2.2.2 (fun j hj => HS.out j (by omega)))
          clear HS HI
          obtain ⟨R, hR⟩ : ∃ R, linesT L L' = R := ⟨_, rfl⟩
          have HD0 : Hid (OwnG flK FileT (wr.alloc (.cells #[] FileT)) wr.heap.size (.slice (some ⟨wr.heap.size, 0, none⟩) 0 0) ([] : List FileL)) := Lib.hid (OwnG.lit rfl #[] rfl)
          have hb0 : Below wr.heap.size wr (wr.alloc (.cells #[] FileT)) := (Below.refl _ _).alloc (Nat.le_refl _) _
          have HB0 := Lib.hid hb0
          have HA0 := Lib.hid (atg_fl ((HF1.out.below HB.out).below hb0))
          have HC0 := Lib.hid ((HF2.out.below HB.out).below hb0)
          have HA1 := Lib.hid ((HF1.out.below HB.out).below hb0)
          have HR1 := Lib.hid (fun (W : World) (a c a' c' : _) (h1 : FilesAt W a n c L) (h2 : FilesAt W a' n' c' L') (h3 : HTabs W) => (show Calls Tryd.prog 16 #[.slice a n c, .slice a' n' c'] W (LinesIs R W) by
            rw [← hR]; exact lines_any a a' n c n' c' L L' W h1 h2 (fun f hf => by have := HSA.out f hf; omega) (fun f hf => by have := HSB.out f hf; omega) (by have := HN.out; omega) (by have := HN.out; omega) h3))
          have HR2 := Lib.hid (fun (W : World) (h1 : FilesAt W a n c L) (h2 : FilesAt W a' n' c' L') => (show Calls Tryd.prog 17 #[.slice a n c, .slice a' n' c'] W (LinesIs R W) by
            rw [← hR]; exact refLines_any a a' n c n' c' L L' W h1 h2 (fun f hf => by have := HSA.out f hf; omega) (fun f hf => by have := HSB.out f hf; omega) (by have := HN.out; omega) (by have := HN.out; omega)))
          have HBW := Lib.hid HB.out
          have hqq : (((R.2 : Nat) : Int) == ((R.2 : Nat) : Int)) = true := beq_self_eq_true _
          clear hb0 hR HB
          go_wp2_with (first
            | (at_builtin; (with_reducible show wpList _ _ _ (⟨some 66, _, _, _, _, _⟩ :: _) _ _); go_must (refine appG flK Tryd.underlying36 infoFl rfl rfl _ _ rfl wr.heap.size _ ([] : List FileL) rfl HD0.out a n c L rfl HA0.out (by have := HN.out; simp only [List.length_nil]; omega) (by simp) n (by simp) ?_); intro a8 c8 w1 ho hg; have HO1 := Lib.hid ho.atG; have hb1 := HB0.out.grown hg (by simp) (fun k h => (HD0.out.lt k h).1); have HX1 := Lib.hid hb1; have hb1a := (Below.refl w1.heap.size w1).alloc (Nat.le_refl _) (.cells #[] FileT); have HG1 := Lib.hid (show FilesAt (w1.alloc (.cells #[] FileT)) a8 n c8 L from (fl_files (by have h1 := HO1.out; exact h1)).below hb1a); have HC1 := Lib.hid (show FilesAt (w1.alloc (.cells #[] FileT)) a' n' c' L' from ((HF2.out.below HBW.out).below hb1).below hb1a); have HY1 := Lib.hid (hb1a.size); have HE1 : Hid (OwnG flK FileT (w1.alloc (.cells #[] FileT)) w1.heap.size (.slice (some ⟨w1.heap.size, 0, none⟩) 0 0) ([] : List FileL)) := Lib.hid (OwnG.lit rfl #[] rfl); have HZ1 := Lib.hid hb1a; clear ho hg hb1 hb1a)
            | (at_builtin; go_must (refine appG flK Tryd.underlying36 infoFl rfl rfl _ _ rfl w1.heap.size _ ([] : List FileL) rfl HE1.out a' n' c' L' rfl (atg_fl HC1.out) (by have := HN.out; simp only [List.length_nil]; omega) (by simp) n' (by simp) ?_); intro a9 c9 w2 ho hg; have hb2 := HZ1.out.grown hg (by simp) (fun k h => (HE1.out.lt k h).1); have HG2 := Lib.hid (show FilesAt w2 a8 n c8 L from (fl_files HO1.out).below hb2); have HH2 : Hid (FilesAt w2 a9 n' c9 L') := Lib.hid (fl_files (by have h1 := ho.atG; exact h1)); have HB2 := Lib.hid (HX1.out.trans (hb2.mono HX1.out.size)); clear ho hg hb2)
            | (go_at_call 16; (with_reducible refine (HR1.out w2 a8 c8 a9 c9 HG2.out HH2.out (HT.out.below (HBW.out.trans (HB2.out.mono HBW.out.size)))).mono ?_); rintro e w3 ⟨a3, n3, c3, rfl, hl, hb⟩; have HL3 := Lib.hid hl; have HB3 := Lib.hid (HB2.out.trans (hb.mono HB2.out.size)); clear hl hb)
            | (go_at_call 17; (with_reducible refine (HR2.out w3 ((HF1.out.below HBW.out).below HB3.out) ((HF2.out.below HBW.out).below HB3.out)).mono ?_); rintro e w4 ⟨a4, n4, c4, rfl, hl, hb⟩; have HL4 := Lib.hid hl; have HK4 := Lib.hid (HL3.out.below hb); have HB4 := Lib.hid (HB3.out.trans (hb.mono HB3.out.size)); clear hl hb)
            | (go_at_call 12; (with_reducible refine (texts_any a3 n3 c3 _ a4 n4 c4 _ w4 HK4.out HL4.out).mono ?_); rintro e w5 ⟨he, hb⟩; rw [decide_eq_true rfl] at he; subst he; have HB5 := Lib.hid (HB4.out.trans (hb.mono HB4.out.size)); clear hb)
            | (go_at_call 15; (with_reducible refine (awake_any w5 (HT.out.below (HBW.out.trans (HB5.out.mono HBW.out.size)))).mono ?_); rintro e w6 ⟨rfl, hb⟩; have HB6 := Lib.hid (HB5.out.trans (hb.mono HB5.out.size)); clear hb))
          go_ret
          exact ⟨rfl, HBW.out.trans (HB6.out.mono HBW.out.size)⟩
#print axioms hunkFiles_any
end Go.Proofs.YtfoalaoanpbmeaaDoor
