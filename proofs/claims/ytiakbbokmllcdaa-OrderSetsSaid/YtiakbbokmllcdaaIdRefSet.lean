/-
  The walks of the document's Set, Minus, Both and Union.
-/
import Derived.Test.YtiakbbokmllcdaaIdRefSort
namespace Go.Proofs.Ytiakbbokmllcdaa
open Go.RowKit

theorem refIn_at (a : Option Addr) (n c : Nat) (l : List (List UInt8)) (x : List UInt8) (b : Bool) (w : World) (ha : IdsAt w a n c l) (hx : x.length = 32) (hn : n ≤ 1000000000) (hb : b = decide (x ∈ l)) :
    Calls Try.prog 35 #[.slice a n c, .agg (idCells x)] w fun e w' => e = .returned (.bool b) ∧ Below w.heap.size w w' := in_at a n c l x b w ha hx hn hb
theorem refSort_is (a : Option Addr) (n c : Nat) (l L : List (List UInt8)) (w0 w : World) (hb : IdsAt w a n c l) (hl : n ≤ 1000000000) (hL : L = sortF l) (h0 : Below w0.heap.size w0 w) :
    Calls Try.prog 19 #[.slice a n c] w (MadeI w0 L) := by
  subst hL
  refine (refSort_any a n c l w hb hl).mono ?_
  rintro e w' ⟨a1, n1, c1, rfl, ho, hbb⟩
  exact ⟨a1, n1, c1, rfl, ho.mono h0.size, h0.trans (hbb.mono h0.size)⟩
set_option maxRecDepth 100000 in
set_option maxHeartbeats 2000000 in
theorem refSet_any (a : Option Addr) (n c : Nat) (l : List (List UInt8)) (w : World) (ha : IdsAt w a n c l) (hn : n ≤ 1000000) :
    Calls Try.prog 21 #[.slice a n c] w (MadeI w (setF (l))) := by
  have HA := Lib.hid ha
  have HLN := Lib.hid ha.1
  have hnI : (n : Int) ≤ 1000000 := by omega
  have hn0 : (0 : Int) ≤ (n : Int) := by omega
  have HO := Lib.hid (OwnI.nil w w.heap.size)
  have HS := Lib.hid (show ([] : List (List UInt8)) = onceF [] (l.take 0) from rfl)
  clear ha hn
  go_enter Try.func21, Try.ntmps21
  go_wp2
  go_loopg [3, 4] n (fun g v3 v4 W => ∃ (i r : Nat) (S : List (List UInt8)) (aS : Option Addr) (cS : Nat), v3 = .slice aS r cS ∧ v4 = .int .i64 i ∧ g + i = n ∧ Hid (r ≤ i) ∧ Below w.heap.size w W ∧ Hid (OwnI W w.heap.size (.slice aS r cS) S) ∧ Hid (S.length = r) ∧ Hid (S = onceF [] (l.take i)))
  case atStart => exact ⟨0, 0, [], none, 0, rfl, rfl, rfl, Lib.hid (Nat.le_refl _), Below.refl _ _, HO, Lib.hid rfl, HS⟩
  case round =>
    clear HO HS
    obtain ⟨i, r, S, aS, cS, rfl, rfl, hg, HRI, hbw, HOW, HSL, HS⟩ := hrel
    have HG := Lib.hid hg
    have hi0 : (0 : Int) ≤ (i : Int) := by omega
    have hiI : (i : Int) ≤ (n : Int) := by omega
    by_cases hi : (i : Int) < (n : Int)
    · obtain ⟨ba, oa, rfl⟩ := HA.out.some_ (by omega)
      obtain ⟨x, hx⟩ : ∃ x, x = l.getD i [] := ⟨_, rfl⟩
      have HXE := Lib.hid hx
      have HX := Lib.hid (show x.length = 32 by rw [hx]; exact getD_32 HA.out.2.2.2.1 (by rw [HLN.out]; omega))
      have HCA := Lib.hid (show wr.rangeAt ba (oa + i * 32) (x.map B) by have := (HA.out.below hbw).at_ i (by omega); rwa [← hx] at this)
      have HIN := Lib.hid (show i < n by omega)
      have HBS := Lib.hid hbw.size
      obtain ⟨q, hq⟩ : ∃ q, q = decide (x ∈ S) := ⟨_, rfl⟩
      have HQ := Lib.hid hq
      have HC := Lib.hid (refIn_at aS r cS S x q wr HOW.out.isIds HX.out (by have := HRI.out; omega) hq)
      clear hg hx hq
      cases q with
      | true =>
        go_wp2_with (first
          | ((with_reducible show wpList _ _ _ (⟨some 15, _, _, _, _, _⟩ :: _) _ _); refine wl_load (wanted_plain rfl) _ rfl ba (oa + i * 32) x HX.out rfl HCA.out ?_)
          | (go_at_call 35; go_must (refine HC.out.mono ?_); rintro e w3 ⟨rfl, hb3⟩))
        have HN := Lib.hid (show S = onceF [] (l.take (i + 1)) by rw [take_snoc (by rw [HLN.out]; exact HIN.out), ← HXE.out, onceF_snoc, ← HS.out, if_pos (of_decide_eq_true HQ.out.symm)])
        go_roundg (gk - 1)
        case measure => have := HG.out; omega
        case rel => exact ⟨i + 1, r, S, aS, cS, rfl, by go_num, by have := HG.out; omega, Lib.hid (by have := HRI.out; omega), hbw.trans (hb3.mono HBS.out), Lib.hid (HOW.out.below hb3), HSL, HN⟩
      | false =>
        have H48 := Lib.hid (show (S.length + 1) * 32 ≤ 140737488355328 by rw [HSL.out]; have := HRI.out; have := HIN.out; omega)
        go_wp2_with (first
          | ((with_reducible show wpList _ _ _ (⟨some 15, _, _, _, _, _⟩ :: _) _ _); refine wl_load (wanted_plain rfl) _ rfl ba (oa + i * 32) x HX.out rfl HCA.out ?_)
          | (go_at_call 35; go_must (refine HC.out.mono ?_); rintro e w3 ⟨rfl, hb3⟩; have HCA3 := Lib.hid (rangeAt_below HCA.out hb3); have HBS3 := Lib.hid (Nat.le_trans HBS.out hb3.size); have HOWA := Lib.hid ((HOW.out.below hb3).alloc (.cells (idCells x) 23)); have HIDS := Lib.hid (ids_new w3 HX.out); have HBA := Lib.hid (show w.heap.size ≤ (w3.alloc (.cells (idCells x) 23)).heap.size by have := HBS3.out; simp; omega))
          | ((with_reducible show wpList _ _ _ (⟨some 22, _, _, _, _, _⟩ :: _) _ _); refine wl_load (wanted_plain rfl) _ rfl ba (oa + i * 32) x HX.out rfl HCA3.out ?_)
          | ((with_reducible show wpList _ _ _ (⟨some 23, _, _, _, _, _⟩ :: _) _ _); refine wl_one rfl _ rfl x HX.out rfl ?_)
          | (at_builtin; go_must (refine app_ids rfl (.tmp 18) (.tmp 23) rfl w.heap.size _ S rfl HOWA.out _ 1 1 [x] rfl HIDS.out H48.out HBA.out ?_); intro v' w1 hown1 hgr1))
        have HBW3 := Lib.hid (hbw.trans (hb3.mono HBS.out))
        obtain ⟨g, cv, hv, hgb, hown, hbw1⟩ := (more_of (base := w.heap.size) hown1 (by simp) (HBW3.out.alloc HBS3.out _) hgr1 (fun k hk => (HOWA.out.lt k hk).1) HBA.out)
        have HV := Lib.hid (show (S ++ [x]).length = r + 1 by simp [HSL.out])
        rw [HV.out] at hv
        subst hv
        have HN := Lib.hid (show S ++ [x] = onceF [] (l.take (i + 1)) by rw [take_snoc (by rw [HLN.out]; exact HIN.out), ← HXE.out, onceF_snoc, ← HS.out, if_neg (of_decide_eq_false HQ.out.symm)])
        go_roundg (gk - 1)
        case measure => have := HG.out; omega
        case rel => exact ⟨i + 1, r + 1, S ++ [x], some ⟨g, 0, none⟩, cv, rfl, by go_num, by have := HG.out; omega, Lib.hid (by have := HRI.out; omega), hbw1, Lib.hid hown, HV, HN⟩
    · have HF := Lib.hid (show S = onceF [] l by rw [HS.out, List.take_of_length_le (by rw [HLN.out]; omega)])
      have HIS := Lib.hid HOW.out.isIds
      have HRN := Lib.hid (show r ≤ 1000000 by have := HRI.out; omega)
      clear hg
      go_wp2_with (go_at_call 19; go_must (refine (refSort_is aS r cS S (setF l) w wr HIS.out (by have := HRN.out; omega) (by rw [HF.out]; rfl) hbw).mono ?_); rintro e w1 ⟨a1, n1, c1, rfl, ho1, hb1⟩)
      go_ret
      exact ⟨a1, n1, c1, rfl, ho1, hb1⟩
#print axioms refSet_any
theorem refSet_is (a : Option Addr) (n c : Nat) (l L : List (List UInt8)) (w0 w : World) (hb : IdsAt w a n c l) (hl : n ≤ 1000000) (hL : L = setF l) (h0 : Below w0.heap.size w0 w) :
    Calls Try.prog 21 #[.slice a n c] w (MadeI w0 L) := by
  subst hL
  refine (refSet_any a n c l w hb hl).mono ?_
  rintro e w' ⟨a1, n1, c1, rfl, ho, hbb⟩
  exact ⟨a1, n1, c1, rfl, ho.mono h0.size, h0.trans (hbb.mono h0.size)⟩

set_option maxRecDepth 100000 in
set_option maxHeartbeats 2000000 in
theorem refMinus_any (a : Option Addr) (n c : Nat) (l : List (List UInt8)) (b : Option Addr) (m d : Nat) (k : List (List UInt8)) (w : World) (ha : IdsAt w a n c l) (hb : IdsAt w b m d k) (hn : n ≤ 1000000) (hm : m ≤ 1000000) :
    Calls Try.prog 32 #[.slice a n c, .slice b m d] w (MadeI w (setF (inF k false l))) := by
  have HA := Lib.hid ha
  have HLN := Lib.hid ha.1
  have HB := Lib.hid hb
  have HM := Lib.hid (show m ≤ 1000000000 by omega)
  have hnI : (n : Int) ≤ 1000000 := by omega
  have hn0 : (0 : Int) ≤ (n : Int) := by omega
  have HO := Lib.hid (OwnI.nil w w.heap.size)
  have HS := Lib.hid (show ([] : List (List UInt8)) = inF k false (l.take 0) from rfl)
  clear ha hn hb hm
  go_enter Try.func32, Try.ntmps32
  go_wp2
  go_loopg [5, 6] n (fun g v3 v4 W => ∃ (i r : Nat) (S : List (List UInt8)) (aS : Option Addr) (cS : Nat), v3 = .slice aS r cS ∧ v4 = .int .i64 i ∧ g + i = n ∧ Hid (r ≤ i) ∧ Below w.heap.size w W ∧ Hid (OwnI W w.heap.size (.slice aS r cS) S) ∧ Hid (S.length = r) ∧ Hid (S = inF k false (l.take i)))
  case atStart => exact ⟨0, 0, [], none, 0, rfl, rfl, rfl, Lib.hid (Nat.le_refl _), Below.refl _ _, HO, Lib.hid rfl, HS⟩
  case round =>
    clear HO HS
    obtain ⟨i, r, S, aS, cS, rfl, rfl, hg, HRI, hbw, HOW, HSL, HS⟩ := hrel
    have HG := Lib.hid hg
    have hi0 : (0 : Int) ≤ (i : Int) := by omega
    have hiI : (i : Int) ≤ (n : Int) := by omega
    by_cases hi : (i : Int) < (n : Int)
    · obtain ⟨ba, oa, rfl⟩ := HA.out.some_ (by omega)
      obtain ⟨x, hx⟩ : ∃ x, x = l.getD i [] := ⟨_, rfl⟩
      have HXE := Lib.hid hx
      have HX := Lib.hid (show x.length = 32 by rw [hx]; exact getD_32 HA.out.2.2.2.1 (by rw [HLN.out]; omega))
      have HCA := Lib.hid (show wr.rangeAt ba (oa + i * 32) (x.map B) by have := (HA.out.below hbw).at_ i (by omega); rwa [← hx] at this)
      have HIN := Lib.hid (show i < n by omega)
      have HBS := Lib.hid hbw.size
      obtain ⟨q, hq⟩ : ∃ q, q = decide (x ∈ k) := ⟨_, rfl⟩
      have HQ := Lib.hid hq
      have HC := Lib.hid (refIn_at b m d k x q wr (HB.out.below hbw) HX.out HM.out hq)
      clear hg hx hq
      cases q with
      | true =>
        go_wp2_with (first
          | ((with_reducible show wpList _ _ _ (⟨some 17, _, _, _, _, _⟩ :: _) _ _); refine wl_load (wanted_plain rfl) _ rfl ba (oa + i * 32) x HX.out rfl HCA.out ?_)
          | (go_at_call 35; go_must (refine HC.out.mono ?_); rintro e w3 ⟨rfl, hb3⟩))
        have HN := Lib.hid (show S = inF k false (l.take (i + 1)) by rw [take_snoc (by rw [HLN.out]; exact HIN.out), ← HXE.out, inF_snoc, ← HS.out, if_neg (fun h => Bool.noConfusion (HQ.out.trans h))])
        go_roundg (gk - 1)
        case measure => have := HG.out; omega
        case rel => exact ⟨i + 1, r, S, aS, cS, rfl, by go_num, by have := HG.out; omega, Lib.hid (by have := HRI.out; omega), hbw.trans (hb3.mono HBS.out), Lib.hid (HOW.out.below hb3), HSL, HN⟩
      | false =>
        have H48 := Lib.hid (show (S.length + 1) * 32 ≤ 140737488355328 by rw [HSL.out]; have := HRI.out; have := HIN.out; omega)
        go_wp2_with (first
          | ((with_reducible show wpList _ _ _ (⟨some 17, _, _, _, _, _⟩ :: _) _ _); refine wl_load (wanted_plain rfl) _ rfl ba (oa + i * 32) x HX.out rfl HCA.out ?_)
          | (go_at_call 35; go_must (refine HC.out.mono ?_); rintro e w3 ⟨rfl, hb3⟩; have HCA3 := Lib.hid (rangeAt_below HCA.out hb3); have HBS3 := Lib.hid (Nat.le_trans HBS.out hb3.size); have HOWA := Lib.hid ((HOW.out.below hb3).alloc (.cells (idCells x) 23)); have HIDS := Lib.hid (ids_new w3 HX.out); have HBA := Lib.hid (show w.heap.size ≤ (w3.alloc (.cells (idCells x) 23)).heap.size by have := HBS3.out; simp; omega))
          | ((with_reducible show wpList _ _ _ (⟨some 24, _, _, _, _, _⟩ :: _) _ _); refine wl_load (wanted_plain rfl) _ rfl ba (oa + i * 32) x HX.out rfl HCA3.out ?_)
          | ((with_reducible show wpList _ _ _ (⟨some 25, _, _, _, _, _⟩ :: _) _ _); refine wl_one rfl _ rfl x HX.out rfl ?_)
          | (at_builtin; go_must (refine app_ids rfl (.tmp 20) (.tmp 25) rfl w.heap.size _ S rfl HOWA.out _ 1 1 [x] rfl HIDS.out H48.out HBA.out ?_); intro v' w1 hown1 hgr1))
        have HBW3 := Lib.hid (hbw.trans (hb3.mono HBS.out))
        obtain ⟨g, cv, hv, hgb, hown, hbw1⟩ := (more_of (base := w.heap.size) hown1 (by simp) (HBW3.out.alloc HBS3.out _) hgr1 (fun k hk => (HOWA.out.lt k hk).1) HBA.out)
        have HV := Lib.hid (show (S ++ [x]).length = r + 1 by simp [HSL.out])
        rw [HV.out] at hv
        subst hv
        have HN := Lib.hid (show S ++ [x] = inF k false (l.take (i + 1)) by rw [take_snoc (by rw [HLN.out]; exact HIN.out), ← HXE.out, inF_snoc, ← HS.out, if_pos (HQ.out.symm)])
        go_roundg (gk - 1)
        case measure => have := HG.out; omega
        case rel => exact ⟨i + 1, r + 1, S ++ [x], some ⟨g, 0, none⟩, cv, rfl, by go_num, by have := HG.out; omega, Lib.hid (by have := HRI.out; omega), hbw1, Lib.hid hown, HV, HN⟩
    · have HF := Lib.hid (show S = inF k false l by rw [HS.out, List.take_of_length_le (by rw [HLN.out]; omega)])
      have HIS := Lib.hid HOW.out.isIds
      have HRN := Lib.hid (show r ≤ 1000000 by have := HRI.out; omega)
      clear hg
      go_wp2_with (go_at_call 21; go_must (refine (refSet_is aS r cS S (setF (inF k false l)) w wr HIS.out HRN.out (by rw [HF.out]) hbw).mono ?_); rintro e w1 ⟨a1, n1, c1, rfl, ho1, hb1⟩)
      go_ret
      exact ⟨a1, n1, c1, rfl, ho1, hb1⟩
#print axioms refMinus_any
set_option maxRecDepth 100000 in
set_option maxHeartbeats 2000000 in
theorem refBoth_any (a : Option Addr) (n c : Nat) (l : List (List UInt8)) (b : Option Addr) (m d : Nat) (k : List (List UInt8)) (w : World) (ha : IdsAt w a n c l) (hb : IdsAt w b m d k) (hn : n ≤ 1000000) (hm : m ≤ 1000000) :
    Calls Try.prog 34 #[.slice a n c, .slice b m d] w (MadeI w (setF (inF k true l))) := by
  have HA := Lib.hid ha
  have HLN := Lib.hid ha.1
  have HB := Lib.hid hb
  have HM := Lib.hid (show m ≤ 1000000000 by omega)
  have hnI : (n : Int) ≤ 1000000 := by omega
  have hn0 : (0 : Int) ≤ (n : Int) := by omega
  have HO := Lib.hid (OwnI.nil w w.heap.size)
  have HS := Lib.hid (show ([] : List (List UInt8)) = inF k true (l.take 0) from rfl)
  clear ha hn hb hm
  go_enter Try.func34, Try.ntmps34
  go_wp2
  go_loopg [5, 6] n (fun g v3 v4 W => ∃ (i r : Nat) (S : List (List UInt8)) (aS : Option Addr) (cS : Nat), v3 = .slice aS r cS ∧ v4 = .int .i64 i ∧ g + i = n ∧ Hid (r ≤ i) ∧ Below w.heap.size w W ∧ Hid (OwnI W w.heap.size (.slice aS r cS) S) ∧ Hid (S.length = r) ∧ Hid (S = inF k true (l.take i)))
  case atStart => exact ⟨0, 0, [], none, 0, rfl, rfl, rfl, Lib.hid (Nat.le_refl _), Below.refl _ _, HO, Lib.hid rfl, HS⟩
  case round =>
    clear HO HS
    obtain ⟨i, r, S, aS, cS, rfl, rfl, hg, HRI, hbw, HOW, HSL, HS⟩ := hrel
    have HG := Lib.hid hg
    have hi0 : (0 : Int) ≤ (i : Int) := by omega
    have hiI : (i : Int) ≤ (n : Int) := by omega
    by_cases hi : (i : Int) < (n : Int)
    · obtain ⟨ba, oa, rfl⟩ := HA.out.some_ (by omega)
      obtain ⟨x, hx⟩ : ∃ x, x = l.getD i [] := ⟨_, rfl⟩
      have HXE := Lib.hid hx
      have HX := Lib.hid (show x.length = 32 by rw [hx]; exact getD_32 HA.out.2.2.2.1 (by rw [HLN.out]; omega))
      have HCA := Lib.hid (show wr.rangeAt ba (oa + i * 32) (x.map B) by have := (HA.out.below hbw).at_ i (by omega); rwa [← hx] at this)
      have HIN := Lib.hid (show i < n by omega)
      have HBS := Lib.hid hbw.size
      obtain ⟨q, hq⟩ : ∃ q, q = decide (x ∈ k) := ⟨_, rfl⟩
      have HQ := Lib.hid hq
      have HC := Lib.hid (refIn_at b m d k x q wr (HB.out.below hbw) HX.out HM.out hq)
      clear hg hx hq
      cases q with
      | true =>
        have H48 := Lib.hid (show (S.length + 1) * 32 ≤ 140737488355328 by rw [HSL.out]; have := HRI.out; have := HIN.out; omega)
        go_wp2_with (first
          | ((with_reducible show wpList _ _ _ (⟨some 17, _, _, _, _, _⟩ :: _) _ _); refine wl_load (wanted_plain rfl) _ rfl ba (oa + i * 32) x HX.out rfl HCA.out ?_)
          | (go_at_call 35; go_must (refine HC.out.mono ?_); rintro e w3 ⟨rfl, hb3⟩; have HCA3 := Lib.hid (rangeAt_below HCA.out hb3); have HBS3 := Lib.hid (Nat.le_trans HBS.out hb3.size); have HOWA := Lib.hid ((HOW.out.below hb3).alloc (.cells (idCells x) 23)); have HIDS := Lib.hid (ids_new w3 HX.out); have HBA := Lib.hid (show w.heap.size ≤ (w3.alloc (.cells (idCells x) 23)).heap.size by have := HBS3.out; simp; omega))
          | ((with_reducible show wpList _ _ _ (⟨some 23, _, _, _, _, _⟩ :: _) _ _); refine wl_load (wanted_plain rfl) _ rfl ba (oa + i * 32) x HX.out rfl HCA3.out ?_)
          | ((with_reducible show wpList _ _ _ (⟨some 24, _, _, _, _, _⟩ :: _) _ _); refine wl_one rfl _ rfl x HX.out rfl ?_)
          | (at_builtin; go_must (refine app_ids rfl (.tmp 19) (.tmp 24) rfl w.heap.size _ S rfl HOWA.out _ 1 1 [x] rfl HIDS.out H48.out HBA.out ?_); intro v' w1 hown1 hgr1))
        have HBW3 := Lib.hid (hbw.trans (hb3.mono HBS.out))
        obtain ⟨g, cv, hv, hgb, hown, hbw1⟩ := (more_of (base := w.heap.size) hown1 (by simp) (HBW3.out.alloc HBS3.out _) hgr1 (fun k hk => (HOWA.out.lt k hk).1) HBA.out)
        have HV := Lib.hid (show (S ++ [x]).length = r + 1 by simp [HSL.out])
        rw [HV.out] at hv
        subst hv
        have HN := Lib.hid (show S ++ [x] = inF k true (l.take (i + 1)) by rw [take_snoc (by rw [HLN.out]; exact HIN.out), ← HXE.out, inF_snoc, ← HS.out, if_pos (HQ.out.symm)])
        go_roundg (gk - 1)
        case measure => have := HG.out; omega
        case rel => exact ⟨i + 1, r + 1, S ++ [x], some ⟨g, 0, none⟩, cv, rfl, by go_num, by have := HG.out; omega, Lib.hid (by have := HRI.out; omega), hbw1, Lib.hid hown, HV, HN⟩
      | false =>
        go_wp2_with (first
          | ((with_reducible show wpList _ _ _ (⟨some 17, _, _, _, _, _⟩ :: _) _ _); refine wl_load (wanted_plain rfl) _ rfl ba (oa + i * 32) x HX.out rfl HCA.out ?_)
          | (go_at_call 35; go_must (refine HC.out.mono ?_); rintro e w3 ⟨rfl, hb3⟩))
        have HN := Lib.hid (show S = inF k true (l.take (i + 1)) by rw [take_snoc (by rw [HLN.out]; exact HIN.out), ← HXE.out, inF_snoc, ← HS.out, if_neg (fun h => Bool.noConfusion (HQ.out.trans h))])
        go_roundg (gk - 1)
        case measure => have := HG.out; omega
        case rel => exact ⟨i + 1, r, S, aS, cS, rfl, by go_num, by have := HG.out; omega, Lib.hid (by have := HRI.out; omega), hbw.trans (hb3.mono HBS.out), Lib.hid (HOW.out.below hb3), HSL, HN⟩
    · have HF := Lib.hid (show S = inF k true l by rw [HS.out, List.take_of_length_le (by rw [HLN.out]; omega)])
      have HIS := Lib.hid HOW.out.isIds
      have HRN := Lib.hid (show r ≤ 1000000 by have := HRI.out; omega)
      clear hg
      go_wp2_with (go_at_call 21; go_must (refine (refSet_is aS r cS S (setF (inF k true l)) w wr HIS.out HRN.out (by rw [HF.out]) hbw).mono ?_); rintro e w1 ⟨a1, n1, c1, rfl, ho1, hb1⟩)
      go_ret
      exact ⟨a1, n1, c1, rfl, ho1, hb1⟩
#print axioms refBoth_any
/-- An append, its result written out. -/
theorem app_slice {w : World} {ops : Array Oper} {rest : List Oper} {o : Oper} {a : Act} {Q : Exit → Act → World → Prop} (hgd : o.guard = none) (s x : Operand)
    (ho : o.op = .call { callee := .builtin .append, args := #[s, x], argTypes := #[30, 30] })
    (base : Nat) (v : Value) (l : List (List UInt8)) (hs : a.eval s = v) (hown : OwnI w base v l)
    (sa : Option Addr) (m c : Nat) (src : List (List UInt8)) (hx : a.eval x = .slice sa m c) (hsrc : IdsAt w sa m c src)
    (h48 : (l.length + m) * 32 ≤ 140737488355328) (hbase : base ≤ w.heap.size) (r : Nat) (hr : r = l.length + m)
    (h : ∀ a' c' w', OwnI w' base (.slice a' r c') (l ++ src) → w.grownBy w' v.ownBlock → wpList Try.prog ops Q rest (a.put o.dst (.slice a' r c')) w') : wpList Try.prog ops Q (o :: rest) a w := by
  refine app_ids hgd s x ho base v l hs hown sa m c src hx hsrc h48 hbase ?_
  intro v' w' h1 h2
  obtain ⟨a', c', rfl, _⟩ := h1.ids
  have e : (l ++ src).length = r := by rw [List.length_append, hsrc.1, hr]
  rw [e] at h1 ⊢
  exact h a' c' w' h1 h2

set_option maxRecDepth 100000 in
set_option maxHeartbeats 1000000 in
theorem refUnion_any (a : Option Addr) (n c : Nat) (l : List (List UInt8)) (b : Option Addr) (m d : Nat) (k : List (List UInt8)) (w : World) (ha : IdsAt w a n c l) (hb : IdsAt w b m d k) (hn : n ≤ 100000) (hm : m ≤ 100000) :
    Calls Try.prog 30 #[.slice a n c, .slice b m d] w (MadeI w (setF (l ++ k))) := by
  have hbel : Below w.heap.size w (w.alloc (.cells #[] 23)) := (Below.refl _ _).alloc (Nat.le_refl _) _
  have HA := Lib.hid (ha.below hbel)
  have HB := Lib.hid hb
  have HLN := Lib.hid ha.1
  have HLM := Lib.hid hb.1
  have HO := Lib.hid (ownI_empty w)
  have HBL := Lib.hid hbel
  have H1 := Lib.hid (show (([] : List (List UInt8)).length + n) * 32 ≤ 140737488355328 by simp; omega)
  have H2 := Lib.hid (show (([] ++ l).length + m) * 32 ≤ 140737488355328 by simp [ha.1]; omega)
  have H3 := Lib.hid (show n + m ≤ 1000000 by omega)
  clear hbel ha hb
  go_enter Try.func30, Try.ntmps30
  have HR1 := Lib.hid (show n = ([] : List (List UInt8)).length + n by simp)
  have HR2 := Lib.hid (show n + m = ([] ++ l).length + m by simp [HLN.out])
  have HZ := Lib.hid (show w.heap.size ≤ (w.alloc (.cells #[] 23)).heap.size by simp)
  go_wp2_with (first
    | ((with_reducible show wpList _ _ _ (⟨some 7, _, _, _, _, _⟩ :: _) _ _); go_must (refine app_slice rfl (.tmp 5) (.tmp 6) rfl w.heap.size _ [] rfl HO.out a n c l rfl HA.out H1.out HZ.out n HR1.out ?_); intro a1 c1 w1 hown1 hgr1; have HO1 := Lib.hid hown1; have HB1 := Lib.hid (HBL.out.grown hgr1 HZ.out (fun k hk => (HO.out.lt k hk).1)); clear hown1 hgr1)
    | ((with_reducible show wpList _ _ _ (⟨some 9, _, _, _, _, _⟩ :: _) _ _); go_must (refine app_slice rfl (.tmp 7) (.tmp 8) rfl w.heap.size _ ([] ++ l) rfl HO1.out b m d k rfl (HB.out.below HB1.out) H2.out HB1.out.size (n + m) HR2.out ?_); intro a2 c2 w2 hown2 hgr2; have HB2 := Lib.hid (HB1.out.grown hgr2 HB1.out.size (fun k hk => (HO1.out.lt k hk).1)); have HI2 := Lib.hid hown2.isIds; clear hgr2 hown2)
    | (go_at_call 21; go_must (refine (refSet_is a2 _ c2 _ (setF (l ++ k)) w w2 HI2.out H3.out rfl HB2.out).mono ?_); rintro e w3 ⟨a3, n3, c3, rfl, ho3, hb3⟩))
  go_ret
  exact ⟨a3, n3, c3, rfl, ho3, hb3⟩
#print axioms refUnion_any
end Go.Proofs.Ytiakbbokmllcdaa
