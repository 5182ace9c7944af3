/-
  The walk of the law ScoreMeans.
-/
import Derived.Test.YtkafeadgjpglaaaMeans
namespace Go.Proofs.Ytkafeadgjpglaaa
open Go.RowKit

/-- A copy: all of a slice, appended to an empty one made anew. -/
theorem wl_copyF {w : World} {ops : Array Oper} {rest : List Oper} {o : Oper} {a : Act} {Q : Exit → Act → World → Prop} (hw : Region.wanted o (yielded ops a.tmps) = true) (s x : Operand)
    (ho : o.op = .call { callee := .builtin .append, args := #[s, x], argTypes := #[29, 29] })
    (sa : Option Addr) (n c : Nat) (L : List Nat) (hs : a.eval s = .slice (some ⟨w.heap.size, 0, none⟩) 0 0) (hx : a.eval x = .slice sa n c) (hsrc : At1 F w sa n c L) (hn : n ≤ 1000000000)
    (h : ∀ a' c' w', At1 F w' a' n c' L → Below w.heap.size w w' → wpList Try.prog ops Q rest (a.put o.dst (.slice a' n c')) w') : wpList Try.prog ops Q (o :: rest) a (w.alloc (.cells #[] 23)) := by
  have hbel : Below w.heap.size w (w.alloc (.cells #[] 23)) := (Below.refl _ _).alloc (Nat.le_refl _) _
  have hown : Own1 F 23 (w.alloc (.cells #[] 23)) w.heap.size (.slice (some ⟨w.heap.size, 0, none⟩) 0 0) [] := World.ownsRow_lit w #[] 0 (Nat.le_refl _) (Nat.zero_le _) rfl
  have hsz : w.heap.size ≤ (w.alloc (.cells #[] 23)).heap.size := by simp
  obtain ⟨i0, hi, hz0, hz1, hz2⟩ := info_parts infoF
  obtain ⟨h1, h2, h3, h4⟩ := hsrc.below hbel
  have fin : ∀ v' w', (Builtin.append_ #[29, 29] o.type #[.slice (some ⟨w.heap.size, 0, none⟩) 0 0, .slice sa n c]).run Try.prog (w.alloc (.cells #[] 23)) = .ok v' w' →
      Own1 F 23 w' w.heap.size v' L → (w.alloc (.cells #[] 23)).grownBy w' (some w.heap.size) → wpList Try.prog ops Q (o :: rest) a (w.alloc (.cells #[] 23)) := by
    intro v' w' hr hO hg
    obtain ⟨a', c', rfl, hat⟩ := hO.at1_
    rw [h1] at hr hat
    unfold wpList
    rw [if_pos hw]
    refine .inl ?_
    exact Lib.wp_append_run _ s x _ _ ho _ _ hs hx _ _ hr (h a' c' w' hat (hbel.grown hg hsz (fun k hk => by cases hk; exact Nat.le_refl _)))
  rcases h4 with ⟨rfl, rfl⟩ | ⟨b, off, rfl, hc⟩
  · have : L = [] := List.length_eq_zero_iff.1 h1
    subst this
    cases sa with
    | none => exact fin _ _ (run_append_owned_none (P := Try.prog) _ w.heap.size 29 o.type 23 i0 1 Try.underlying29 hi _ 0 _ hown) hown ⟨rfl, rfl, rfl, Nat.le_refl _, fun _ _ _ => rfl⟩
    | some ad =>
      obtain ⟨v', w', hr, h5, h6, _⟩ := run_append_own (P := Try.prog) _ w.heap.size 29 o.type 23 i0 _ 1 8 Try.underlying29 hi hz0 hz1 hz2 rfl (by decide) _ 0 _ hown ad 0 0 [] (by simp) (by simp) (by simp) (by unfold maxLen; omega) (by omega) hsz
      exact fin v' w' hr h5 h6
  · obtain ⟨v', w', hr, h5, h6, _⟩ := run_append_own (P := Try.prog) _ w.heap.size 29 o.type 23 i0 _ 1 8 Try.underlying29 hi hz0 hz1 hz2 rfl (by decide) _ 0 _ hown ⟨b, off, none⟩ n c (L.map F) (by simp [h1]) (fun j u hu => by
      rw [List.getElem?_map] at hu
      have hj : j < L.length := by
        rcases Nat.lt_or_ge j L.length with h | h
        · exact h
        · rw [List.getElem?_eq_none h] at hu; cases hu
      have := hc j (by omega)
      simp only [List.getElem?_eq_getElem hj, Option.map_some, Option.some.injEq] at hu
      subst hu
      rw [Addr.add_lit, this]
      simp [hj]) (fun u hu => by obtain ⟨x, _, rfl⟩ := List.mem_map.1 hu; rfl) (by unfold maxLen; omega) (by omega) hsz
    refine fin v' w' hr ?_ h6
    unfold Own1
    have e : 0 + n = L.length := by omega
    rw [e] at h5
    exact h5

theorem snoc_at (Q : List Nat) (j r : Nat) (hl : Q.length = j) (P : Nat → Nat → Prop) (hP : ∀ i, i < j → P i (Q.getD i 0)) (hr : P j r) : ∀ i, i < j + 1 → P i ((Q ++ [r]).getD i 0) := by
  intro i hi
  rcases Nat.lt_or_ge i j with h | h
  · have e : (Q ++ [r]).getD i 0 = Q.getD i 0 := by
      simp only [List.getD_eq_getElem?_getD]
      rw [List.getElem?_append_left (by omega)]
    rw [e]; exact hP i h
  · obtain rfl : i = j := by omega
    have e : (Q ++ [r]).getD i 0 = r := by
      simp only [List.getD_eq_getElem?_getD]
      rw [List.getElem?_append_right (by omega), hl]
      simp
    rw [e]; exact hr
theorem w64_quo {Q L : List Nat} {n s : Nat} (hl : Q.length = n) (h : ∀ i, i < n → FOp .quo (L.getD i 0) s (Q.getD i 0)) : W64 Q := fun i => by
  rcases Nat.lt_or_ge i n with hi | hi
  · exact (h i hi).lt
  · have e : Q.getD i 0 = 0 := by
      simp only [List.getD_eq_getElem?_getD]
      rw [List.getElem?_eq_none (by omega)]
      rfl
    rw [e]; decide

set_option maxRecDepth 100000 in
set_option maxHeartbeats 2000000 in
theorem scoreMeans_any (a : Option Addr) (n c : Nat) (L : List Nat) (w : World) (hL : At1 F w a n c L) : Calls Try.prog 6 #[.slice a n c] w (Yes w) := by
  by_cases hn : (300 : Int) < (n : Int)
  · clear hL
    go_enter Try.func6, Try.ntmps6
    go_wp2
    go_ret
    exact ⟨rfl, Below.refl _ _⟩
  · have HL := Lib.hid hL
    have hnI : (n : Int) ≤ 300 := by omega
    have HN := Lib.hid (show n ≤ 1000000000 by omega)
    have H1 := Lib.hid (refSum_any a n c L w hL HN.out)
    clear hL
    go_enter Try.func6, Try.ntmps6
    go_wp2_with (go_at_call 27; (with_reducible refine H1.out.mono ?_); rintro e w1 ⟨s, rfl, hs, hb⟩; have HS := Lib.hid hs; have HB := Lib.hid hb; clear hs hb)
    go_loopg [3, 5] n (fun g v3 v5 W => ∃ (j : Nat) (a3 : Option Addr) (c3 : Nat) (K : List Nat), v3 = .slice a3 j c3 ∧ v5 = .int .i64 j ∧ g + j = n ∧ Below w.heap.size w W ∧ Hid (Own1 F 23 W w.heap.size (.slice a3 j c3) K) ∧ Hid (∀ i, i < j → FOp .quo (L.getD i 0) s (K.getD i 0)))
    case atStart => exact ⟨0, none, 0, [], rfl, rfl, rfl, HB.out, Lib.hid Own1.nil, Lib.hid (fun i hi => by omega)⟩
    case round =>
      obtain ⟨j, a3, c3, K, rfl, rfl, hg, hbw, HO, HQ⟩ := hrel
      have HG := Lib.hid hg
      have hj0 : (0 : Int) ≤ (j : Int) := by omega
      have hjI : (j : Int) ≤ (n : Int) := by omega
      by_cases hj : (j : Int) < (n : Int)
      · have hjn : j < n := by omega
        have HJ := Lib.hid hjn
        have HKL := Lib.hid HO.out.len
        obtain ⟨b, off, rfl⟩ := HL.out.some_ (by omega)
        obtain ⟨x, hx⟩ : ∃ x, x = L.getD j 0 := ⟨_, rfl⟩
        have hc : wr.cell? ⟨b, off + j, none⟩ = some (.float .f64 x) := by rw [hx]; exact (HL.out.below hbw).cell j hjn
        have HX := Lib.hid hx
        have HBW := Lib.hid hbw
        have HJ3 := Lib.hid (show j ≤ 300 by omega)
        clear hg hx hbw
        go_wp2_with (first
          | ((with_reducible show wpList _ _ _ (⟨some 23, _, _, _, _, _⟩ :: _) _ _); refine wl_fop (wanted_plain rfl) .quo (.inr rfl) _ _ _ rfl x s rfl rfl ?_; intro t w3 ht hb; have HT := Lib.hid ht; have HO3 := Lib.hid ((HO.out.below hb).alloc (.cells #[.float .f64 t] 23)); have HB3 := Lib.hid (Below.step HBW.out hb); have HA3 := Lib.hid ((Below.step HBW.out hb).alloc (Below.step HBW.out hb).size (.cells #[.float .f64 t] 23)); have HS3 := Lib.hid (show (w3.alloc (.cells #[.float .f64 t] 23)).cell? ⟨w3.heap.size, 0, none⟩ = some (F t) by simp [F]); clear ht hb)
          | ((with_reducible show wpList _ _ _ (⟨some 25, _, _, _, _, _⟩ :: _) _ _); go_must (refine app1_told F (fun _ => rfl) Try.underlying29 infoF rfl rfl (.tmp 17) (.tmp 24) rfl w.heap.size _ K rfl HO3.out w3.heap.size t rfl HS3.out (by rw [HKL.out]; have := HJ3.out; omega) HA3.out.size (j + 1) (by rw [HKL.out]) ?_); intro a8 c8 w8 hown8 hgr8 htd8; have HO8 := Lib.hid hown8; have HB8 := Lib.hid (HA3.out.grown hgr8 HA3.out.size (fun k hk => (HO3.out.lt k hk).1)); clear hown8 hgr8 htd8))
        have HQ8 := Lib.hid (snoc_at K j t HKL.out (fun i r => FOp .quo (L.getD i 0) s r) HQ.out (by rw [← HX.out]; exact HT.out))
        go_roundg (n - (j + 1))
        case measure => have := HG.out; have := HJ.out; omega
        case rel => exact ⟨j + 1, a8, c8, K ++ [t], rfl, by go_num, by have := HJ.out; omega, HB8.out, HO8, HQ8⟩
      · have hjn : j = n := by omega
        subst hjn
        have HBW := Lib.hid hbw
        clear hg hbw
        go_wp2_with (first
          | ((with_reducible show wpList _ _ _ (⟨some 28, _, _, _, _, _⟩ :: _) _ _); go_must (refine wl_copyF (by rfl) (.tmp 26) (.tmp 27) rfl a j c L rfl rfl (HL.out.below HBW.out) HN.out ?_); intro a4 c4 w4 hat4 hb4; have HC4 := Lib.hid hat4; have HB4 := Lib.hid hb4; clear hat4 hb4)
          | (go_at_call 28; (with_reducible refine (mean_any a4 j c4 L _ HC4.out HN.out).mono ?_); rintro e w5 ⟨s5, r5, rfl, hs5, hr5, hb5⟩; have HS5 := Lib.hid hs5; have HR5 := Lib.hid hr5; have HB5 := Lib.hid (Below.step HB4.out hb5); clear hs5 hr5 hb5)
          | ((with_reducible show wpList _ _ _ (⟨some 34, _, _, _, _, _⟩ :: _) _ _); refine wl_fop (wanted_plain rfl) .quo (.inr rfl) _ _ _ rfl s (floatOfInt .f64 j) rfl rfl ?_; intro t6 w6 ht6 hb6; have HT6 := Lib.hid ht6; have HB6 := Lib.hid (Below.step HB5.out hb6); clear ht6 hb6)
          | (go_at_call 15; (with_reducible refine (refOrder_is r5 t6 0 _ HR5.out.lt HT6.out.lt (FOp.sim (.inr rfl) (HS5.out.sim HS.out) (Sim.refl _) HR5.out HT6.out).ord).mono ?_); rintro e w9 ⟨rfl, rfl⟩)
          | ((with_reducible show wpList _ _ _ (⟨some 40, _, _, _, _, _⟩ :: _) _ _); go_must (refine wl_copyF (by rfl) (.tmp 38) (.tmp 39) rfl a j c L rfl rfl (HL.out.below (Below.trans HBW.out (HB6.out.mono HBW.out.size))) HN.out ?_); intro a7 c7 w7 hat7 hb7; have HC7 := Lib.hid hat7; have HB7 := Lib.hid (Below.step HB6.out hb7); clear hat7 hb7)
          | (go_at_call 30; (with_reducible refine (shares_any a7 j c7 L _ HC7.out HN.out).mono ?_); rintro e w8 ⟨s8, Q8, a8, c8, rfl, hat8, hs8, hq8, hb8⟩; have HC8 := Lib.hid hat8; have HS8 := Lib.hid hs8; have HQ8 := Lib.hid hq8; have HB8 := Lib.hid (Below.step HB7.out hb8); have HZ1 := Lib.hid (w64_quo hat8.1 hq8); have HZ2 := Lib.hid (w64_quo HO.out.len HQ.out); have HZ3 := Lib.hid (HO.out.at1.below HB8.out); have HZ4 := Lib.hid (fun i hi => FOp.sim (.inr rfl) (Sim.refl _) (HS8.out.sim HS.out) (HQ8.out i hi) (HQ.out i hi)); have HZ5 := Lib.hid (same_yes a8 j c8 Q8 a3 c3 K w8 hat8 HZ3.out HN.out HZ1.out HZ2.out HZ4.out); clear hat8 hs8 hq8 hb8)
          | (go_at_call 29; (with_reducible refine HZ5.out.mono ?_); rintro e w9 ⟨rfl, hb9⟩; have HB9 := Lib.hid (Below.step HB8.out hb9); clear hb9)
          | (go_at_call 20; (with_reducible refine (awake_any _).mono ?_); rintro e w10 ⟨rfl, hb10⟩; have HB10 := Lib.hid (Below.step HB9.out hb10); clear hb10))
        go_ret
        exact ⟨rfl, Below.trans HBW.out (HB10.out.mono HBW.out.size)⟩
end Go.Proofs.Ytkafeadgjpglaaa
