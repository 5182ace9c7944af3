/-
  The walk of the document's Fresh.
-/
import Derived.Test.YtipoielcmaegaaaGreatDoorFreshC
import Derived.Test.YtipoielcmaegaaaGreatDoorClashes
import Derived.Test.YtipoielcmaegaaaGreatDoorDigits
namespace Go.Proofs.YtipoielcmaegaaaGreatDoor
open Go.RowKit

theorem hd_at {l : List UInt8} {i : Nat} (hi : i < (hdF l).length) : l.getD i 0 ≠ 47 := by
  have h1 : l[i]? = (hdF l)[i]? := by
    conv => lhs; rw [← List.take_append_drop (hdF l).length l, hd_take]
    rw [List.getElem?_append_left hi]
  rw [List.getD_eq_getElem?_getD, h1, List.getElem?_eq_getElem hi]
  exact hd_no47 l _ (List.getElem_mem hi)
theorem hd_stop {l : List UInt8} (hi : (hdF l).length < l.length) : l.getD (hdF l).length 0 = 47 := by
  rcases hd_rest l with h | ⟨r, h⟩
  · have := congrArg List.length h
    rw [List.length_drop] at this
    simp at this
    omega
  · have h1 : l[(hdF l).length]? = (l.drop (hdF l).length)[0]? := by rw [List.getElem?_drop]; rfl
    rw [List.getD_eq_getElem?_getD, h1, h]; rfl

set_option maxRecDepth 100000 in
set_option maxHeartbeats 2000000 in
theorem refFresh_any (s : ByteArray) (a : Option Addr) (m c : Nat) (L : List (List UInt8)) (w : World) (hA : At1 St w a m c L) (hm : m ≤ 60) (hs : s.size ≤ 1000000) (hx : ∀ j, j < m → (L.getD j default).length ≤ 1000000) :
    Calls Tryz.prog 21 #[.string s, .slice a m c] w fun e w' => ∃ r, e = .returned (.string (strB r)) ∧ FreshR s.data.toList L r ∧ Below w.heap.size w w' := by
  obtain ⟨sl, hsl⟩ : ∃ sl, sl = s.data.toList := ⟨_, rfl⟩
  rw [← hsl]
  have hcl := fun W hA => refClashes_any s a m c L W hA (by omega) (by omega) (fun j hj => by have := hx j hj; omega)
  rw [← hsl] at hcl
  obtain ⟨f, hf⟩ : ∃ f, f = clashesF sl L := ⟨_, rfl⟩
  rw [← hf] at hcl
  have HCL := Lib.hid (hcl w hA)
  clear hcl
  rcases f
  · have HE := Lib.hid (show FreshR sl L sl from .inl ⟨hf.symm, rfl⟩)
    have HS := Lib.hid (show strB sl = s by rw [hsl, strB_of])
    clear hf hA hm hs hx hsl
    go_enter Tryz.func21, Tryz.ntmps21
    go_wp2_with (go_at_call 36; (with_reducible refine HCL.out.mono ?_); rintro e w1 ⟨rfl, rfl⟩)
    go_ret
    exact ⟨sl, by rw [HS.out]; rfl, HE.out, Below.refl _ _⟩
  · obtain ⟨k, hk⟩ : ∃ k, k = (hdF sl).length := ⟨_, rfl⟩
    have hlen : sl.length = s.size := by rw [hsl, b_len]
    have hks : k ≤ s.size := by rw [hk, ← hlen]; exact hd_le sl
    have hsI : (s.size : Int) ≤ 1000000 := by omega
    obtain ⟨q, hq, hqle⟩ := fresh_exists sl L (by rw [hA.1]; omega)
    have hql : q ≤ m + 1 := by have := hA.1; omega
    have HA := Lib.hid hA
    have HM := Lib.hid hm
    have HS := Lib.hid hs
    have HX := Lib.hid hx
    have HK := Lib.hid hk
    have HSL := Lib.hid hsl
    have HLEN := Lib.hid hlen
    have HQ := Lib.hid hq
    have HQL := Lib.hid hql
    have HF := Lib.hid hf
    have HKS := Lib.hid hks
    clear hf hA hm hs hx hsl hk hlen hq hqle hql hks
    go_enter Tryz.func21, Tryz.ntmps21
    go_wp2_with (go_at_call 36; (with_reducible refine HCL.out.mono ?_); rintro e w1 ⟨rfl, rfl⟩)
    go_loopg [5] s.size (fun g v5 W => ∃ i : Nat, w = W ∧ v5 = .int .i64 i ∧ g + i = s.size ∧ i ≤ k)
    case atStart => exact ⟨0, rfl, rfl, rfl, Nat.zero_le _⟩
    case round =>
      obtain ⟨i, rfl, rfl, hg, hik⟩ := hrel
      have HG := Lib.hid hg
      have hiI : (i : Int) ≤ (s.size : Int) := by omega
      by_cases hlt : i < k
      · have his : i < s.size := by have := HKS.out; omega
        have hisI : (i : Int) < (s.size : Int) := by omega
        have h47 : (((s[i]'his).toNat : Int) != 47) = true := by
          rw [bne_iff_ne]
          intro e
          have h1 := byte47.1 e
          rw [b_at s i his, ← HSL.out] at h1
          exact hd_at (by rw [← HK.out]; exact hlt) h1
        have h47b : ¬ ((s[i]'his).toNat : Int) = 47 := by simpa using h47
        have HLT := Lib.hid hlt
        clear hg hik hlt
        go_wp2
        go_roundg (gk - 1)
        case measure => have := HG.out; have := HLT.out; have := HKS.out; omega
        case rel => exact ⟨i + 1, rfl, by go_num, by have := HG.out; have := HLT.out; have := HKS.out; omega, HLT.out⟩
      · have hke : i = k := by omega
        subst hke
        have HR7 : Hid (∀ (n : Nat), 1 ≤ n → n ≤ q → s.extract 0 i ++ ⟨#[126]⟩ ++ strB (Lib.decDigits n) ++ s.extract i s.size = strB (numF sl n)) := Lib.hid (by
          intro n _ _
          have e1 : s.extract 0 i = strB (hdF sl) := by rw [HSL.out]; exact hd_ext s i (by rw [← HSL.out]; exact HK.out.symm)
          have e2 : s.extract i s.size = strB (sl.drop (hdF sl).length) := by
            have : (s.extract i s.size).data.toList = sl.drop (hdF sl).length := by rw [startF_len (hdF sl) s i HK.out.symm, HSL.out]
            rw [← this, strB_of]
          rw [e1, e2, show (⟨#[126]⟩ : ByteArray) = strB [126] from rfl, strB_app, strB_app, strB_app]
          congr 1
          unfold numF
          simp)
        have hks : i ≤ s.size := HKS.out
        have hksI : (i : Int) ≤ (s.size : Int) := by omega
        have hk0 : (0 : Int) ≤ (i : Int) := by omega
        by_cases hik2 : i < s.size
        · have hisI : (i : Int) < (s.size : Int) := by omega
          have h47 : ((s[i]'hik2).toNat : Int) = 47 := byte47.2 (by
            rw [b_at s i hik2, ← HSL.out, HK.out]
            exact hd_stop (by rw [← HK.out, HLEN.out]; exact hik2))
          have h47b : (((s[i]'hik2).toNat : Int) != 47) = false := by rw [h47]; rfl
          clear hg hik hlt
          obtain ⟨X, hX⟩ : ∃ X : Nat → ByteArray, ∀ n, X n = s.extract 0 i ++ ⟨#[126]⟩ ++ strB (Lib.decDigits n) ++ s.extract i s.size := ⟨_, fun _ => rfl⟩
          have HC2 : Hid (∀ (n : Nat) W, 1 ≤ n → n ≤ q → Below w.heap.size w W → Calls Tryz.prog 36 #[.string (s.extract 0 i ++ ⟨#[126]⟩ ++ strB (Lib.decDigits n) ++ s.extract i s.size), .slice a m c] W fun e w' => e = .returned (.bool (clashesF (numF sl n) L)) ∧ W = w') := Lib.hid (by
            intro n W h1 h2 hb
            rw [HR7.out n h1 h2]
            have := refClashes_any (strB (numF sl n)) a m c L W (HA.out.below hb) (by have := HM.out; omega) (by
              rw [strB_size]
              have := dec_len (n := n) (by have := HQL.out; have := HM.out; omega)
              have := HLEN.out
              have := HS.out
              have := hd_le sl
              unfold numF
              simp only [List.length_append, List.length_cons, List.length_drop]
              omega) (fun j hj => by have := HX.out j hj; omega)
            rw [strB_list] at this
            exact this)
          have HDG : Hid (∀ (n : Nat) W, n ≤ q → Calls Tryz.prog 37 #[.int .i64 n] W fun e w' => e = .returned (.string (strB (Lib.decDigits n))) ∧ W = w') := Lib.hid (fun n W h => digits_any n W (by have := HQL.out; have := HM.out; omega))
          have HDL : Hid (∀ (n : Nat), n ≤ q → (strB (Lib.decDigits n)).size ≤ 2) := Lib.hid (fun n h => by rw [strB_size]; exact dec_len (by have := HQL.out; have := HM.out; omega))
          clear hX X
          go_wp2
          go_loopg [6] q (fun g v6 W => ∃ n : Nat, Below w.heap.size w W ∧ v6 = .int .i64 n ∧ g + n = q + 1 ∧ 1 ≤ n ∧ n ≤ q)
          case atStart => exact ⟨1, Below.refl _ _, rfl, rfl, Nat.le_refl _, HQ.out.1⟩
          case round =>
            obtain ⟨n, hbw, rfl, hg2, hn1, hnq⟩ := hrel
            have HG2 := Lib.hid hg2
            have hC := fun dn => HC2.out n (wr.drewN dn) hn1 hnq (below_drewG hbw dn)
            have HD := Lib.hid (fun W => HDG.out n W hnq)
            have hD2 : ((strB (Lib.decDigits n)).size : Int) ≤ 2 := by have := HDL.out n hnq; omega
            obtain ⟨u, hu⟩ : ∃ u, u = clashesF (numF sl n) L := ⟨_, rfl⟩
            have HEQ := Lib.hid (HR7.out n hn1 hnq)
            have HN1 := Lib.hid hn1
            have HNQ := Lib.hid hnq
            have HUC := Lib.hid hu
            have hnI : (n : Int) ≤ 61 := by have := HNQ.out; have := HQL.out; have := HM.out; omega
            rw [← hu] at hC
            have HC := Lib.hid hC
            generalize hdd : strB (Lib.decDigits n) = D at HD hD2 HC HEQ
            clear hC hu hg2 hn1 hnq hdd
            have hw1 : ¬ 9223372036854775807 < i + 1 := by omega
            have hw2 : ¬ 9223372036854775807 < i + 1 + D.size := by omega
            have hw3 : ¬ 9223372036854775807 < i + 1 + D.size + (s.size - i) := by omega
            rcases u
            · have HNE := Lib.hid (show n = q by
                apply Classical.byContradiction
                intro hne
                have h1 := HQ.out.2.2 n HN1.out (by have := HNQ.out; omega)
                have h2 := HUC.out
                rw [h1] at h2
                cases h2)
              go_wp2
              go_quiet (first
                | (go_at_call 37; exact Calls.quiet_of_same ((HD.out _).mono fun e w h => ⟨h.1, h.2.symm⟩))
                | (go_at_call 36; exact Calls.quiet_of_same ((HC.out _).mono fun e w h => ⟨h.1, h.2.symm⟩)))
              have hbd := Lib.hid (below_drewG hbw nq)
              generalize hW : wr.drewN nq = W1 at hbd ⊢
              clear hW
              go_wp2
              go_quiet (first
                | (go_at_call 37; exact Calls.quiet_of_same ((HD.out _).mono fun e w h => ⟨h.1, h.2.symm⟩)))
              go_wp2
              go_ret
              exact ⟨numF sl n, by rw [← HEQ.out]; rfl, .inr ⟨HF.out.symm, n, by rw [HNE.out]; exact HQ.out, rfl⟩, below_drewG hbd.out _⟩
            · have HNE := Lib.hid (show n + 1 ≤ q by
                apply Classical.byContradiction
                intro hne
                have h0 : n = q := by have := HNQ.out; omega
                have h2 := HUC.out
                rw [h0, HQ.out.2.1] at h2
                cases h2)
              go_wp2
              go_quiet (first
                | (go_at_call 37; exact Calls.quiet_of_same ((HD.out _).mono fun e w h => ⟨h.1, h.2.symm⟩))
                | (go_at_call 36; exact Calls.quiet_of_same ((HC.out _).mono fun e w h => ⟨h.1, h.2.symm⟩)))
              have HBD := Lib.hid (below_drewG hbw nq)
              go_wp2
              go_roundg (gk - 1)
              case measure => have := HG2.out; have := HNE.out; omega
              case rel => exact ⟨n + 1, HBD.out, by go_num, by have := HG2.out; have := HNE.out; omega, by omega, HNE.out⟩
        · have hke : i = s.size := by omega
          have hnl : ¬ (i : Int) < (s.size : Int) := by omega
          clear hg hik hlt hik2 hke
          obtain ⟨X, hX⟩ : ∃ X : Nat → ByteArray, ∀ n, X n = s.extract 0 i ++ ⟨#[126]⟩ ++ strB (Lib.decDigits n) ++ s.extract i s.size := ⟨_, fun _ => rfl⟩
          have HC2 : Hid (∀ (n : Nat) W, 1 ≤ n → n ≤ q → Below w.heap.size w W → Calls Tryz.prog 36 #[.string (s.extract 0 i ++ ⟨#[126]⟩ ++ strB (Lib.decDigits n) ++ s.extract i s.size), .slice a m c] W fun e w' => e = .returned (.bool (clashesF (numF sl n) L)) ∧ W = w') := Lib.hid (by
            intro n W h1 h2 hb
            rw [HR7.out n h1 h2]
            have := refClashes_any (strB (numF sl n)) a m c L W (HA.out.below hb) (by have := HM.out; omega) (by
              rw [strB_size]
              have := dec_len (n := n) (by have := HQL.out; have := HM.out; omega)
              have := HLEN.out
              have := HS.out
              have := hd_le sl
              unfold numF
              simp only [List.length_append, List.length_cons, List.length_drop]
              omega) (fun j hj => by have := HX.out j hj; omega)
            rw [strB_list] at this
            exact this)
          have HDG : Hid (∀ (n : Nat) W, n ≤ q → Calls Tryz.prog 37 #[.int .i64 n] W fun e w' => e = .returned (.string (strB (Lib.decDigits n))) ∧ W = w') := Lib.hid (fun n W h => digits_any n W (by have := HQL.out; have := HM.out; omega))
          have HDL : Hid (∀ (n : Nat), n ≤ q → (strB (Lib.decDigits n)).size ≤ 2) := Lib.hid (fun n h => by rw [strB_size]; exact dec_len (by have := HQL.out; have := HM.out; omega))
          clear hX X
          go_wp2
          go_loopg [6] q (fun g v6 W => ∃ n : Nat, Below w.heap.size w W ∧ v6 = .int .i64 n ∧ g + n = q + 1 ∧ 1 ≤ n ∧ n ≤ q)
          case atStart => exact ⟨1, Below.refl _ _, rfl, rfl, Nat.le_refl _, HQ.out.1⟩
          case round =>
            obtain ⟨n, hbw, rfl, hg2, hn1, hnq⟩ := hrel
            have HG2 := Lib.hid hg2
            have hC := fun dn => HC2.out n (wr.drewN dn) hn1 hnq (below_drewG hbw dn)
            have HD := Lib.hid (fun W => HDG.out n W hnq)
            have hD2 : ((strB (Lib.decDigits n)).size : Int) ≤ 2 := by have := HDL.out n hnq; omega
            obtain ⟨u, hu⟩ : ∃ u, u = clashesF (numF sl n) L := ⟨_, rfl⟩
            have HEQ := Lib.hid (HR7.out n hn1 hnq)
            have HN1 := Lib.hid hn1
            have HNQ := Lib.hid hnq
            have HUC := Lib.hid hu
            have hnI : (n : Int) ≤ 61 := by have := HNQ.out; have := HQL.out; have := HM.out; omega
            rw [← hu] at hC
            have HC := Lib.hid hC
            generalize hdd : strB (Lib.decDigits n) = D at HD hD2 HC HEQ
            clear hC hu hg2 hn1 hnq hdd
            have hw1 : ¬ 9223372036854775807 < i + 1 := by omega
            have hw2 : ¬ 9223372036854775807 < i + 1 + D.size := by omega
            have hw3 : ¬ 9223372036854775807 < i + 1 + D.size + (s.size - i) := by omega
            rcases u
            · have HNE := Lib.hid (show n = q by
                apply Classical.byContradiction
                intro hne
                have h1 := HQ.out.2.2 n HN1.out (by have := HNQ.out; omega)
                have h2 := HUC.out
                rw [h1] at h2
                cases h2)
              go_wp2
              go_quiet (first
                | (go_at_call 37; exact Calls.quiet_of_same ((HD.out _).mono fun e w h => ⟨h.1, h.2.symm⟩))
                | (go_at_call 36; exact Calls.quiet_of_same ((HC.out _).mono fun e w h => ⟨h.1, h.2.symm⟩)))
              have hbd := Lib.hid (below_drewG hbw nq)
              generalize hW : wr.drewN nq = W1 at hbd ⊢
              clear hW
              go_wp2
              go_quiet (first
                | (go_at_call 37; exact Calls.quiet_of_same ((HD.out _).mono fun e w h => ⟨h.1, h.2.symm⟩)))
              go_wp2
              go_ret
              exact ⟨numF sl n, by rw [← HEQ.out]; rfl, .inr ⟨HF.out.symm, n, by rw [HNE.out]; exact HQ.out, rfl⟩, below_drewG hbd.out _⟩
            · have HNE := Lib.hid (show n + 1 ≤ q by
                apply Classical.byContradiction
                intro hne
                have h0 : n = q := by have := HNQ.out; omega
                have h2 := HUC.out
                rw [h0, HQ.out.2.1] at h2
                cases h2)
              go_wp2
              go_quiet (first
                | (go_at_call 37; exact Calls.quiet_of_same ((HD.out _).mono fun e w h => ⟨h.1, h.2.symm⟩))
                | (go_at_call 36; exact Calls.quiet_of_same ((HC.out _).mono fun e w h => ⟨h.1, h.2.symm⟩)))
              have HBD := Lib.hid (below_drewG hbw nq)
              go_wp2
              go_roundg (gk - 1)
              case measure => have := HG2.out; have := HNE.out; omega
              case rel => exact ⟨n + 1, HBD.out, by go_num, by have := HG2.out; have := HNE.out; omega, by omega, HNE.out⟩
end Go.Proofs.YtipoielcmaegaaaGreatDoor
