/-
  Nothing costs less: the law walked.
-/
import Derived.Test.YtbfaaphijgmabaaDoorMyAppAll
import Derived.Test.YtbfaaphijgmabaaDoorMyCosts
namespace Go.Proofs.YtbfaaphijgmabaaDoor
open Go.RowKit My

theorem OkTo.app {A B : List Int} (hA : OkTo A A.length) (hB : OkTo B B.length) : OkTo (A ++ B) (A ++ B).length := fun i hi => by
  rcases Nat.lt_or_ge i A.length with h | h
  · have := hA i h
    rwa [show (A ++ B).getD i 0 = A.getD i 0 by simp [List.getD_eq_getElem?_getD, List.getElem?_append_left h]]
  · rw [List.length_append] at hi
    have := hB (i - A.length) (by omega)
    rwa [show (A ++ B).getD i 0 = B.getD (i - A.length) 0 by simp [List.getD_eq_getElem?_getD, List.getElem?_append_right h]]
theorem goV_er : ∀ (L : List EdV) (x : List Int) (r : List UInt8), OkTo x x.length → (∀ e ∈ L, chkE e.s = (0, 0)) → goV x L = some r → ∃ (l : List Er) (y : List Int), applyR x l = some y ∧ r = txt y ∧ OkTo y y.length ∧ (costR l : Int) = costV L := by
  intro L
  induction L with
  | nil =>
    intro x r hx _ h
    rw [goV] at h
    split at h
    · rename_i h1
      subst h1
      obtain rfl := Option.some.inj h
      exact ⟨[], [], by rw [applyR, if_pos rfl], rfl, OkTo.zero _, rfl⟩
    · cases h
  | cons e L ih =>
    intro x r hx hs h
    rw [goV] at h
    split at h
    · rename_i h1
      obtain ⟨h1, h2, h3, h4⟩ := h1
      obtain ⟨q, hq, rfl⟩ := Option.map_eq_some_iff.1 h
      obtain ⟨l, y, i1, i2, i3, i4⟩ := ih _ _ (hx.dropped _) (fun e he => hs e (List.mem_cons_of_mem _ he)) hq
      have hc := hs e (by simp)
      rcases runesF_cases e.s with ⟨m, hm⟩ | ⟨p, hm⟩
      · refine ⟨⟨e.k.toNat, e.d.toNat, zs m⟩ :: l, x.take e.k.toNat ++ zs m ++ y, ?_, ?_, ((hx.taken _).app (ok_zs (runesF_some hm).1)).app i3, ?_⟩
        · rw [applyR, if_pos (show e.k.toNat + e.d.toNat ≤ x.length by omega), show e.k.toNat + e.d.toNat = (e.k + e.d).toNat by omega, i1]
          rfl
        · rw [txt_append, txt_append, txt_zs hm, i2]
        · simp only [costR, costV, cntE_some hm, zs_length]
          unfold posI
          rw [if_neg (by omega)]
          omega
      · rw [chkE_none hm] at hc; simp at hc
    · cases h
theorem runesF_txt {y : List Int} (h : OkTo y y.length) : ∃ M q, runesF (txt y) = (some M, q) ∧ zs M = y := by
  obtain ⟨M, rfl, hM⟩ := zs_of h
  have e : txt (zs M) = textF M := by
    unfold txt
    rw [show (zs M).map Int.toNat = M from List.ext_getElem (by simp [zs]) fun i h1 h2 => by simp [zs]]
  exact ⟨M, _, by rw [e]; exact runesF_text hM, rfl⟩
theorem apA_cases (s : List UInt8) (L : List EdV) : (∃ r x p M q, apA s L = (r, 0) ∧ runesF s = (some x, p) ∧ runesF r = (some M, q) ∧ goV (zs x) L = some r ∧ (dist (zs x) (zs M) : Int) ≤ costV L) ∨ apA s L = ([], 1) ∨ apA s L = ([], 5) := by
  rcases runesF_cases s with ⟨x, hx⟩ | ⟨p, hx⟩
  · by_cases hok : ∀ e ∈ L, chkE e.s = (0, 0)
    · cases hr : goV (zs x) L with
      | none => right; left; rw [apA_some hx hok, hr]; rfl
      | some r =>
        left
        obtain ⟨l, y, h1, h2, h3, h4⟩ := goV_er L (zs x) r (ok_zs (runesF_some hx).1) hok hr
        obtain ⟨M, q, h5, h6⟩ := runesF_txt h3
        refine ⟨r, x, _, M, q, by rw [apA_some hx hok, hr]; rfl, hx, by rw [h2]; exact h5, hr, ?_⟩
        have := apply_least l (zs x) y h1
        rw [h6, ← h4]
        exact_mod_cast this
    · right; right; exact apA_bad hx hok
  · right; right; exact apA_none hx
set_option maxRecDepth 100000 in
set_option maxHeartbeats 4000000 in
theorem least_any (s : ByteArray) (a : Option Addr) (n c : Nat) (L : List EdV) (w : World) (h : AtG edK w a n c L) (hs : s.size ≤ 140737488355328) (hs2 : ∀ e ∈ L, e.s.length ≤ 140737488355328) (hT : Tabs w) :
    Calls Tryd.prog 7 #[.string s, .slice a n c] w (BoolIs true w) := by
  have hsI : (s.size : Int) ≤ 140737488355328 := by omega
  have HL := Lib.hid h
  have HLN := Lib.hid h.1
  have HT := Lib.hid hT
  have HS2 := Lib.hid hs2
  have hn0 : (n : Int) ≤ 9223372036854775807 := by have := h.2.1; have := h.2.2.1; omega
  have AW := Lib.hid (fun W (hb : Below w.heap.size w W) => awake_any W (hT.below hb))
  clear h hT hs2 hs
  by_cases h1 : 150 < s.size
  · have z1 : decide (150 < s.size) = true := by simpa using h1
    have z2 : decide ((150 : Int) < (s.size : Int)) = true := by simp; omega
    clear h1
    go_enter Tryd.func7, Tryd.ntmps7
    go_wp2
    go_ret
    exact ⟨rfl, Below.refl _ _⟩
  · have z1 : decide (150 < s.size) = false := by simpa using h1
    have z2 : decide ((150 : Int) < (s.size : Int)) = false := by simp; omega
    have HSZ := Lib.hid (show s.size ≤ 150 by omega)
    clear h1
    by_cases h2 : 60 < n
    · have z3 : decide (60 < n) = true := by simpa using h2
      have z4 : decide ((60 : Int) < (n : Int)) = true := by simp; omega
      clear h2
      go_enter Tryd.func7, Tryd.ntmps7
      go_wp2
      go_ret
      exact ⟨rfl, Below.refl _ _⟩
    · have z3 : decide (60 < n) = false := by simpa using h2
      have z4 : decide ((60 : Int) < (n : Int)) = false := by simp; omega
      have hn60 : (n : Int) ≤ 60 := by omega
      clear h2
      go_enter Tryd.func7, Tryd.ntmps7
      go_wp2_with fail
      go_loopg [5] n (fun gh v5 W => ∃ i : Nat, v5 = .int .i64 i ∧ gh + i = n ∧ W = w ∧ Hid (∀ k, k < i → (gd L k).s.length ≤ 20))
      case atStart => exact ⟨0, rfl, rfl, rfl, Lib.hid (fun k hk => by omega)⟩
      case round =>
        obtain ⟨i, rfl, hgh, rfl, HAL⟩ := hrel
        have HGH := Lib.hid hgh
        have hi0 : (0 : Int) ≤ (i : Int) := by omega
        have hin : (i : Int) ≤ (n : Int) := by omega
        clear hgh
        by_cases hi : (i : Int) < (n : Int)
        · have hib : decide (i < n) = true := by simp; omega
          have HI := Lib.hid (show i < n by omega)
          obtain ⟨b, off, rfl⟩ := HL.out.some_ (by omega)
          have hx := HL.out.at_ i HI.out
          have hmem := gd_mem (L := L) (i := i) (by rw [HLN.out]; exact HI.out)
          have hxl := HS2.out _ hmem
          obtain ⟨x, hxg⟩ : ∃ x, gd L i = x := ⟨_, rfl⟩
          rw [hxg] at hx hxl
          have HXG := Lib.hid hxg
          obtain ⟨sx, hsx⟩ : ∃ b, strB x.s = b := ⟨_, rfl⟩
          have hsz : sx.size = x.s.length := by rw [← hsx, strB_size]
          have HSX := Lib.hid hsz
          have x2 : wr.cell? ⟨b, off + i * 3 + 2, none⟩ = some (.string sx) := hsx ▸ hx 2 (.string (strB x.s)) rfl
          have hsxI : (sx.size : Int) ≤ 140737488355328 := by omega
          by_cases q1 : 20 < sx.size
          · have y1 : decide (20 < sx.size) = true := by simpa using q1
            have y2 : decide ((20 : Int) < (sx.size : Int)) = true := by simp; omega
            clear hx hmem hxl hxg hsx hsz q1
            go_wp2
            go_ret
            exact ⟨rfl, Below.refl _ _⟩
          · have y1 : decide (20 < sx.size) = false := by simpa using q1
            have y2 : decide ((20 : Int) < (sx.size : Int)) = false := by simp; omega
            have HQ1 := Lib.hid q1
            clear hx hmem hxl hxg hsx hsz q1
            go_wp2
            go_roundg (n - (i + 1))
            case measure => have := HGH.out; have := HI.out; omega
            case rel => exact ⟨i + 1, by go_num, by have := HGH.out; have := HI.out; omega, rfl, Lib.hid (fun k hk => (Nat.lt_or_ge k i).elim (fun h => HAL.out k h) (fun h => by rw [show k = i by omega, HXG.out]; have := HQ1.out; have := HSX.out; omega))⟩
        · have hib : decide (i < n) = false := by simp; omega
          have HMI := Lib.hid (show MildS L from ⟨by have := HLN.out; omega, all_gd (fun k hk => by have := HAL.out k (by have := HLN.out; omega); omega)⟩)
          have AP := Lib.hid (applyA_any s a n c L wr (by have := HSZ.out; omega) HL.out HMI.out HT.out)
          clear hi
          rcases apA_cases s.data.toList L with ⟨r, x, p, M, q, hv, hx, hM, hg, hd⟩ | hv | hv
          · rw [hv] at AP
            have hls : s.data.toList.length = s.size := by rw [Array.length_toList]; rfl
            have hxl := runesF_len hx
            have HMD := Lib.hid (goV_mild hg HMI.out (by rw [zs_length]; have := HSZ.out; omega))
            obtain ⟨sr, hsr⟩ : ∃ b, strB r = b := ⟨_, rfl⟩
            have hrz : sr.size = r.length := by rw [← hsr, strB_size]
            have hrl : sr.data.toList = r := by rw [← hsr, strB_list]
            have AP2 : Hid (Calls Tryd.prog 16 #[.string s, .slice a n c] wr fun e w' => e = .returned (.tuple #[.string sr, .int .i64 0]) ∧ Below wr.heap.size wr w') := Lib.hid (AP.out.mono fun e w' h => ⟨hsr ▸ h.1, h.2⟩)
            clear AP
            by_cases h6 : 600 < sr.size
            · have y1 : decide (600 < sr.size) = true := by simpa using h6
              have y2 : decide ((600 : Int) < (sr.size : Int)) = true := by simp; omega
              clear hv hx hM hg hd hls hxl hsr hrz hrl h6
              go_wp2_with (first
                | (go_at_call 16; (refine AP2.out.mono ?_); rintro en w2 ⟨rfl, hb2⟩; have HB2 := Lib.hid hb2; clear hb2)
                | (go_at_call 12; (refine (AW.out _ HB2.out).mono ?_); rintro en w7 ⟨rfl, hb7⟩; have HB7 := Lib.hid (HB2.out.trans (hb7.mono HB2.out.size)); clear hb7))
              go_ret
              exact ⟨rfl, HB7.out⟩
            · have y1 : decide (600 < sr.size) = false := by simpa using h6
              have y2 : decide ((600 : Int) < (sr.size : Int)) = false := by simp; omega
              obtain ⟨c1, c2, c3⟩ := cost_diff hx hM ⟨by have := HSZ.out; omega, by omega⟩
              have DF := Lib.hid (fun W (hb : Below wr.heap.size wr W) => diff_any s sr W (by have := HSZ.out; omega) (by omega) (HT.out.below hb))
              rw [hrl] at DF
              obtain ⟨dd, hdd⟩ : ∃ d, diffF s.data.toList r = d := ⟨_, rfl⟩
              rw [hdd] at c1 c2 c3 DF
              obtain ⟨D1, D2⟩ := dd
              simp only at c1 c2 c3
              subst c3
              have HC2 := Lib.hid c2
              obtain ⟨dn, hdn⟩ : ∃ d, dist (zs x) (zs M) = d := ⟨_, rfl⟩
              rw [hdn] at c1 hd
              obtain ⟨cv, hcv⟩ : ∃ v, costV L = v := ⟨_, rfl⟩
              rw [hcv] at hd
              have RX := Lib.hid (fun W => ref_some s x p W (by have := HSZ.out; omega) hx)
              have RY := Lib.hid (fun W => ref_some sr M q W (by omega) (by rw [hrl]; exact hM))
              have CD := Lib.hid (fun (a1 : Option Addr) c1' W (h1 : AtG edK W a1 D1.length c1' D1) (hb : Below wr.heap.size wr W) => c1 ▸ cost_any a1 D1.length c1' D1 W h1 HC2.out (HT.out.below hb))
              have CO := Lib.hid (fun W (hb : Below wr.heap.size wr W) => hcv ▸ cost_any a n c L W (HL.out.below hb) HMD.out (HT.out.below hb))
              have hml := runesF_len hM
              have HXL := Lib.hid (show x.length ≤ 10000 by have := HSZ.out; omega)
              have HML := Lib.hid (show M.length ≤ 10000 by omega)
              have HCF := Lib.hid (show cF (zs x) (zs M) 0 0 = (dn : Int) by rw [← hdn]; rfl)
              have y3 : decide ((dn : Int) ≤ cv) = true := by simpa using hd
              clear hv hx hM hg hd hls hxl hsr hrz hrl h6 hdd hdn hcv c1 c2 hml
              go_wp2_with (first
                | (go_at_call 16; (refine AP2.out.mono ?_); rintro en w2 ⟨rfl, hb2⟩; have HB2 := Lib.hid hb2; clear hb2)
                | (go_at_call 13; (refine (DF.out _ HB2.out).mono ?_); rintro en w3 ⟨a3, c3, rfl, ho3, hb3⟩; have HB3 := Lib.hid (HB2.out.trans (hb3.mono HB2.out.size)); have O3 := Lib.hid ho3; clear ho3 hb3)
                | (go_at_call 20; have Q2 := Q1; (refine (RY.out _).mono ?_); rintro en w5 ⟨a5, n5, c5, rfl, ho5, hb5⟩; have HB5 := Lib.hid (HB4.out.trans (hb5.mono HB4.out.size)); have O5 := Lib.hid (O4.out.below hb5); have O5b := Lib.hid (O4b.out.below hb5); have R5 := Lib.hid ho5; clear ho5 hb5)
                | (go_at_call 20; (refine (RX.out _).mono ?_); rintro en w4 ⟨a4, n4, c4, rfl, ho4, hb4⟩; have HB4 := Lib.hid (HB3.out.trans (hb4.mono HB3.out.size)); have O4 := Lib.hid (O3.out.below hb4); have O4b := Lib.hid ho4; have Q1 := trivial; clear ho4 hb4)
                | (go_at_call 18; have Q5 := Q4; (refine (CD.out _ _ _ O7.out HB7.out).mono ?_); rintro en w8 ⟨rfl, hb8⟩; have HB8 := Lib.hid (HB7.out.trans (hb8.mono HB7.out.size)); have X8 := Lib.hid (X7.out.below hb8); have Y8 := Lib.hid (Y7.out.below hb8); clear hb8)
                | (go_at_call 18; have Q4 := Q3; (refine (CO.out _ HB6.out).mono ?_); rintro en w7 ⟨rfl, hb7⟩; have HB7 := Lib.hid (HB6.out.trans (hb7.mono HB6.out.size)); have O7 := Lib.hid (O6.out.below hb7); have X7 := Lib.hid (X6.out.below hb7); have Y7 := Lib.hid (Y6.out.below hb7); clear hb7)
                | (go_at_call 18; (refine (CD.out _ _ _ O5.out HB5.out).mono ?_); rintro en w6 ⟨rfl, hb6⟩; have HB6 := Lib.hid (HB5.out.trans (hb6.mono HB5.out.size)); have O6 := Lib.hid (O5.out.below hb6); have X6 := Lib.hid (O5b.out.below hb6); have Y6 := Lib.hid (R5.out.below hb6); have Q3 := trivial; clear hb6)
                | (go_at_call 21; (refine (costs_any (zs x) (zs M) a4 a5 n4 n5 c4 c5 w8 X8.out Y8.out (by rw [← X8.out.1, zs_length]; exact HXL.out) (by rw [← Y8.out.1, zs_length]; exact HML.out)).mono ?_); rintro en w9 ⟨g, bk, rfl, hG, hb9⟩; have HB9 := Lib.hid (HB8.out.trans (hb9.mono HB8.out.size)); have g0 := hG.head (Nat.le_refl 0) (Nat.succ_pos _); have g1 := hG.cell (r := 0) (t := 0) (Nat.le_refl 0) (Nat.succ_pos _) (Nat.succ_pos _) (.inr (Nat.le_refl 0)); rw [HCF.out] at g1; clear hG hb9)
                | (go_at_call 12; (refine (AW.out _ HB9.out).mono ?_); rintro en wz ⟨rfl, hbz⟩; have HBZ := Lib.hid (HB9.out.trans (hbz.mono HB9.out.size)); clear hbz))
              go_ret
              exact ⟨rfl, HBZ.out⟩
          · rw [hv] at AP
            clear hv
            go_wp2_with (first
              | (go_at_call 16; (refine AP.out.mono ?_); rintro en w2 ⟨rfl, hb2⟩; have HB2 := Lib.hid hb2; clear hb2)
              | (go_at_call 12; (refine (AW.out _ HB2.out).mono ?_); rintro en w7 ⟨rfl, hb7⟩; have HB7 := Lib.hid (HB2.out.trans (hb7.mono HB2.out.size)); clear hb7))
            go_ret
            exact ⟨rfl, HB7.out⟩
          · rw [hv] at AP
            clear hv
            go_wp2_with (first
              | (go_at_call 16; (refine AP.out.mono ?_); rintro en w2 ⟨rfl, hb2⟩; have HB2 := Lib.hid hb2; clear hb2)
              | (go_at_call 12; (refine (AW.out _ HB2.out).mono ?_); rintro en w7 ⟨rfl, hb7⟩; have HB7 := Lib.hid (HB2.out.trans (hb7.mono HB2.out.size)); clear hb7))
            go_ret
            exact ⟨rfl, HB7.out⟩
#print axioms least_any
end Go.Proofs.YtbfaaphijgmabaaDoor
