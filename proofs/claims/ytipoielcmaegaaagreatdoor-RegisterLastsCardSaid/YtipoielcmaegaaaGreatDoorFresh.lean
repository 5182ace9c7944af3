/-
  The walk of Fresh.
-/
import Derived.Test.YtipoielcmaegaaaGreatDoorFreshC
import Derived.Test.YtipoielcmaegaaaGreatDoorClashes
namespace Go.Proofs.YtipoielcmaegaaaGreatDoor
open Go.RowKit

/-- What the code has marked: which numbers clash with those taken so far. -/
def usedL (s : List UInt8) (ts : List (List UInt8)) (N : Nat) : List Bool := (List.range N).map fun j => decide (1 ≤ j) && clashesF (numF s j) ts
theorem usedL_nil (s : List UInt8) (N : Nat) : usedL s [] N = List.replicate N false := by
  apply List.ext_getElem
  · simp [usedL]
  · intro i h1 h2; simp [usedL, clashesF]
theorem usedL_at (s : List UInt8) (ts : List (List UInt8)) {N j : Nat} (h : j < N) : (usedL s ts N).getD j default = (decide (1 ≤ j) && clashesF (numF s j) ts) := by simp [usedL, h]
theorem usedL_length (s : List UInt8) (ts : List (List UInt8)) (N : Nat) : (usedL s ts N).length = N := by simp [usedL]
theorem usedL_same {s x : List UInt8} {ts : List (List UInt8)} {N : Nat} (hN : N < 1000000) (h : ∀ j, 1 ≤ j → j < N → nbF x (startF s) = (j : Int) → clashF (numF s j) x = false) : usedL s (ts ++ [x]) N = usedL s ts N := by
  unfold usedL
  apply List.map_congr_left
  intro j hj
  have hj := List.mem_range.1 hj
  rw [used_step s ts x j (by omega)]
  by_cases h1 : 1 ≤ j
  · by_cases h2 : nbF x (startF s) = (j : Int)
    · rw [h j h1 hj h2]; simp
    · rw [decide_eq_false h2]; simp
  · rw [decide_eq_false h1]; rfl
theorem usedL_set {s x : List UInt8} {ts : List (List UInt8)} {N n : Nat} (hN : N < 1000000) (h1 : 1 ≤ n) (hnb : nbF x (startF s) = (n : Int)) (hc : clashF (numF s n) x = true) : usedL s (ts ++ [x]) N = (usedL s ts N).set n true := by
  apply List.ext_getElem
  · simp [usedL]
  · intro i hi1 hi2
    simp only [usedL, List.length_map, List.length_range] at hi1
    rw [List.getElem_set]
    simp only [usedL, List.getElem_map, List.getElem_range]
    rw [used_step s ts x i (by omega)]
    by_cases h : n = i
    · subst h; rw [if_pos rfl, decide_eq_true h1, decide_eq_true hnb, hc]; simp
    · rw [if_neg h, decide_eq_false (show ¬ nbF x (startF s) = (i : Int) from fun e => h (by omega))]; simp

theorem take_snoc {L : List (List UInt8)} {i : Nat} (h : i < L.length) : L.take (i + 1) = L.take i ++ [L.getD i default] := by
  rw [List.take_succ_eq_append_getElem h]; simp [h]

/-- What Fresh tells. -/
def FreshIs (s : List UInt8) (ts : List (List UInt8)) (w : World) (e : Ending) (w' : World) : Prop := ∃ r, e = .returned (.string (strB r)) ∧ FreshR s ts r ∧ Below w.heap.size w w'

theorem grown_below0 {w w' : World} (h : w.grownBy w' none) : Below w.heap.size w w' := ⟨h.os, h.tape, h.output, h.size, fun k hk => h.block k hk (by simp)⟩
theorem cell_lt {w : World} {g o : Nat} {v : Value} (h : w.cell? ⟨g, o, none⟩ = some v) : g < w.heap.size := World.block_lt_of_cell? _ _ h
theorem cell_kept {w w' : World} {g o : Nat} {v : Value} (h : w.cell? ⟨g, o, none⟩ = some v) (hb : Below w.heap.size w w') : w'.cell? ⟨g, o, none⟩ = some v := (hb.cell (cell_lt h)).trans h
theorem cell_set {w : World} {g o b p : Nat} {v u : Value} (h : w.cell? ⟨g, o, none⟩ = some v) (hne : g ≠ b) : (w.setCell ⟨b, p, none⟩ u).cell? ⟨g, o, none⟩ = some v := by
  rw [← h]
  unfold World.cell?
  rw [Below.heap_setCell _ _ _ _ hne]

theorem own_frozen {w : World} {base g n c : Nat} {U : List Bool} (h : Own1 Bo 4 w base (.slice (some ⟨g, 0, none⟩) n c) U) (hn : 0 < n) (j : Nat) : w.frozen? ⟨g, j, none⟩ = false := by
  obtain ⟨g', hg, _, _, _, hf⟩ := h.row hn
  cases hg
  exact hf j

/-- Two variables of their own, and a slice made behind them. -/
theorem fresh_start {w W0 w4 : World} {x y : ByteArray} {T : TypeId} (hd : ∃ n, W0 = ((w.alloc (.cells #[.string x] T)).alloc (.cells #[.string y] T)).drewN n) (hgr : W0.grownBy w4 none) :
    w4.cell? ⟨w.heap.size, 0, none⟩ = some (.string x) ∧ w4.cell? ⟨w.heap.size + 1, 0, none⟩ = some (.string y) ∧ Below w.heap.size w w4 ∧ w.heap.size + 1 + 1 ≤ w4.heap.size := by
  obtain ⟨n, rfl⟩ := hd
  have hb := grown_below0 hgr
  have hb0 : Below w.heap.size w (((w.alloc (.cells #[.string x] T)).alloc (.cells #[.string y] T)).drewN n) :=
    below_drewG (((Below.refl _ _).alloc (Nat.le_refl _) _).alloc (by simp) _) n
  have c1 : (((w.alloc (.cells #[.string x] T)).alloc (.cells #[.string y] T)).drewN n).cell? ⟨w.heap.size, 0, none⟩ = some (.string x) := by
    show ((w.alloc (.cells #[.string x] T)).alloc (.cells #[.string y] T)).cell? ⟨w.heap.size, 0, none⟩ = some (.string x)
    refine cell_kept ?_ ((Below.refl _ _).alloc (Nat.le_refl _) _)
    simp
  have c2 : (((w.alloc (.cells #[.string x] T)).alloc (.cells #[.string y] T)).drewN n).cell? ⟨w.heap.size + 1, 0, none⟩ = some (.string y) := by
    have e : w.heap.size + 1 = (w.alloc (.cells #[.string x] T)).heap.size := by simp
    show ((w.alloc (.cells #[.string x] T)).alloc (.cells #[.string y] T)).cell? ⟨w.heap.size + 1, 0, none⟩ = some (.string y)
    rw [e]
    simp
  have hsz : w.heap.size + 1 + 1 = (((w.alloc (.cells #[.string x] T)).alloc (.cells #[.string y] T)).drewN n).heap.size := by
    show _ = ((w.alloc (.cells #[.string x] T)).alloc (.cells #[.string y] T)).heap.size
    simp
  exact ⟨cell_kept c1 hb, cell_kept c2 hb, hb0.trans (hb.mono hb0.size), by rw [hsz]; exact hb.size⟩

set_option maxRecDepth 100000 in
set_option maxHeartbeats 2000000 in
theorem fresh_any (s : ByteArray) (a : Option Addr) (m c : Nat) (L : List (List UInt8)) (w : World) (hA : At1 St w a m c L) (hm : m ≤ 60) (hs : s.size ≤ 140737488355328) (hx : ∀ j, j < m → (L.getD j default).length ≤ 140737488355328) (hT : PTabs w) :
    Calls Tryz.prog 17 #[.string s, .slice a m c] w (FreshIs s.data.toList L w) := by
  obtain ⟨sl, hsl⟩ : ∃ sl, sl = s.data.toList := ⟨_, rfl⟩
  rw [← hsl]
  have hcl := fun w hA => clashes_any s a m c L w hA (by omega)
  rw [← hsl] at hcl
  obtain ⟨f, hf⟩ : ∃ f, f = clashesF sl L := ⟨_, rfl⟩
  rw [← hf] at hcl
  have HCL := Lib.hid (hcl w hA)
  clear hcl
  rcases f
  · have HE := Lib.hid (show FreshR sl L sl from .inl ⟨hf.symm, rfl⟩)
    have HS := Lib.hid (show strB sl = s by rw [hsl, strB_of])
    clear hf hA hm hs hx hT hsl
    go_enter Tryz.func17, Tryz.ntmps17
    go_wp2_with (go_at_call 27; (with_reducible refine HCL.out.mono ?_); rintro e w1 ⟨rfl, rfl⟩)
    go_ret
    exact ⟨sl, by rw [HS.out]; rfl, HE.out, Below.refl _ _⟩
  · have hix := index_hd s.data.toList
    have hle := hd_le s.data.toList
    rw [b_len] at hix hle
    rw [← hsl] at hix hle
    have hIX := Tryz.strings_Index_one s 47 w
    obtain ⟨k, hk⟩ : ∃ k, (hdF sl).length = k := ⟨_, rfl⟩
    rw [hk] at hix hle
    rw [← hsl, hix] at hIX
    by_cases he : k = s.size
    · rw [if_pos he] at hix
      have HIX := Lib.hid (fun w => by
        have := Tryz.strings_Index_one s 47 w
        rw [← hsl, hix] at this
        exact this)
      have HF5 := Lib.hid (show s = strB (hdF sl) by
        have := hd_ext s k (by rw [← hsl]; exact hk)
        rw [he] at this
        rw [hsl, ← this]; simp)
      have HF6 := Lib.hid (show (⟨#[]⟩ : ByteArray) = strB (sl.drop (hdF sl).length) by
        rw [List.drop_of_length_le (by rw [hk, he, hsl, b_len]; exact Nat.le_refl _)]; rfl)
      have HFL := Lib.hid (show (hdF sl).length ≤ 140737488355328 ∧ (sl.drop (hdF sl).length).length ≤ 140737488355328 by
        rw [List.length_drop, hk]
        have : sl.length = s.size := by rw [hsl, b_len]
        omega)
      obtain ⟨N, hN⟩ : ∃ N, N = m + 2 := ⟨_, rfl⟩
      have hNI : (N : Int) = (m : Int) + 2 := by omega
      have HN := Lib.hid hN
      have HA := Lib.hid hA
      have HM := Lib.hid hm
      have HX := Lib.hid hx
      have HT := Lib.hid hT
      have HF := Lib.hid hf
      have HU0 := Lib.hid (usedL_nil sl N)
      have HK := Lib.hid (fresh_exists sl L (by rw [hA.1]; omega))
      have hmI : (m : Int) ≤ 60 := by omega
      clear hf hA hm hs hx hT hsl hix hle hIX hk he hN
      go_enter Tryz.func17, Tryz.ntmps17
      go_wp2_with (first
        | (go_at_call 27; (with_reducible refine HCL.out.mono ?_); rintro e w1 ⟨rfl, rfl⟩)
        | (go_at_call 28; (with_reducible refine (HIX.out _).mono ?_); rintro e w2 ⟨rfl, rfl⟩)
        | ((with_reducible show wpList _ _ _ (⟨some 34, _, _, _, _, _⟩ :: _) _ _); go_must (refine make1 Bo Tryz.underlying67 infoBo rfl rfl (.tmp 33) (.tmp 33) rfl N (by rw [hNI]; rfl) (by rw [hNI]; rfl) (by have := HN.out; have := HM.out; omega) (by omega) ?_); intro w4 hown4 hgr4))
      have hs4 := fresh_start (x := s) (y := ⟨#[]⟩) ⟨0, rfl⟩ hgr4
      have e4 : ((w.alloc (.cells #[.string s] 9)).alloc (.cells #[.string ⟨#[]⟩] 9)).heap.size = w.heap.size + 1 + 1 := by simp
      have HB4 := Lib.hid hs4.2.2.1
      have HS4 := Lib.hid hs4.2.2.2
      rw [e4] at hown4
      have HO4 := Lib.hid hown4
      have H5 := Lib.hid hs4.1
      have H6 := Lib.hid hs4.2.1
      clear hs4 hown4 hgr4 e4
      obtain ⟨F, hF⟩ : ∃ F, F = hdF sl := ⟨_, rfl⟩
      obtain ⟨G, hG⟩ : ∃ G, G = sl.drop (hdF sl).length := ⟨_, rfl⟩
      have HST := Lib.hid (show (strB F ++ ⟨#[126]⟩ : ByteArray) = strB (startF sl) by
        rw [show (⟨#[126]⟩ : ByteArray) = strB [126] from rfl, strB_app, hF]; rfl)
      have HNUM := Lib.hid (fun n => show F ++ 126 :: (Lib.decDigits n ++ G) = numF sl n by rw [hF, hG]; rfl)
      rw [← hG, ← hF] at HFL
      have HC5 := Lib.hid (show w4.cell? ⟨w.heap.size, 0, none⟩ = some (.string (strB F)) by rw [hF, ← HF5.out]; exact H5.out)
      have HC6 := Lib.hid (show w4.cell? ⟨w.heap.size + 1, 0, none⟩ = some (.string (strB G)) by rw [hG, ← HF6.out]; exact H6.out)
      have hFI : ((strB F).size : Int) ≤ 140737488355328 := by rw [strB_size]; have := HFL.out.1; omega
      clear hF hG HF5 HF6 H5 H6
      go_loopg [37] m (fun g v37 W => ∃ i : Nat, Below w.heap.size w W ∧ W.cell? ⟨w.heap.size, 0, none⟩ = some (.string (strB F)) ∧ W.cell? ⟨w.heap.size + 1, 0, none⟩ = some (.string (strB G)) ∧ Hid (Own1 Bo 4 W (w.heap.size + 1 + 1) (.slice (some ⟨w.heap.size + 1 + 1, 0, none⟩) N N) (usedL sl (L.take i) N)) ∧ Hid (w.heap.size + 1 + 1 ≤ W.heap.size) ∧ v37 = .int .i64 i ∧ g + i = m)
      case atStart => exact ⟨0, HB4.out, HC5.out, HC6.out, Lib.hid (by rw [List.take_zero, HU0.out]; exact HO4.out), HS4, rfl, rfl⟩
      case round =>
        obtain ⟨i, hbw, h5, h6, hown, hsz, rfl, hg⟩ := hrel
        have HG := Lib.hid hg
        have hi0 : (0 : Int) ≤ (i : Int) := by omega
        have hiI : (i : Int) ≤ (m : Int) := by omega
        by_cases hi : (i : Int) < (m : Int)
        · have him : i < m := by omega
          obtain ⟨b, o, rfl⟩ := HA.out.some_ (by omega)
          obtain ⟨x, hx⟩ : ∃ x, x = L.getD i default := ⟨_, rfl⟩
          have hc : wr.cell? ⟨b, o + i, none⟩ = some (.string (strB x)) := by rw [hx]; exact (HA.out.below (hbw)).cell i him
          have HXL := Lib.hid (show (strB x).size ≤ 140737488355328 by rw [strB_size, hx]; exact HX.out i him)
          obtain ⟨z, hz⟩ : ∃ z, z = nbF x (startF sl) := ⟨_, rfl⟩
          have hnb : Calls Tryz.prog 31 #[.string (strB x), .string (strB F ++ ⟨#[126]⟩)] wr fun e w' => e = .returned (.int .i64 z) ∧ Below wr.heap.size wr w' := by
            have := nb_any (strB x) (strB F ++ ⟨#[126]⟩) wr HXL.out (HT.out.below hbw)
            rw [HST.out, strB_list, strB_list, ← hz] at this
            rw [HST.out]; exact this
          have HNB := Lib.hid hnb
          have HTK := Lib.hid (show L.take (i + 1) = L.take i ++ [x] by rw [hx]; exact take_snoc (by rw [HA.out.1]; exact him))
          have HBW := Lib.hid hbw
          have HZ := Lib.hid hz
          have HN100 := Lib.hid (show N ≤ 62 by have := HN.out; have := HM.out; omega)
          by_cases hz1 : (0 : Int) < z ∧ z < (N : Int)
          · obtain ⟨n, rfl⟩ := Int.eq_ofNat_of_zero_le (show 0 ≤ z by omega)
            have hn0 : (0 : Int) < (n : Int) := hz1.1
            have hnN : (n : Int) < (N : Int) := hz1.2
            have hn0n : 0 < n := by omega
            have hnNn : n < N := by omega
            have HCF := Lib.hid (fun W h5 h6 => by
              have := numbered_any n F G (w.heap.size) (w.heap.size + 1) W (by have := HN100.out; omega) HFL.out.1 HFL.out.2 h5 h6
              rw [HNUM.out n] at this
              exact this)
            obtain ⟨f, hf⟩ : ∃ f, clashF (numF sl n) x = f := ⟨_, rfl⟩
            have hcc : ∀ W, Calls Tryz.prog 32 #[.string (strB (numF sl n)), .string (strB x)] W fun e w' => e = .returned (.bool f) ∧ W = w' := by
              intro W
              have := clash_any (strB (numF sl n)) (strB x) W
              rw [strB_list, strB_list, hf] at this
              exact this
            have HCC := Lib.hid hcc
            have HFF := Lib.hid hf
            have HNN := Lib.hid hnNn
            have HN0 := Lib.hid hn0n
            generalize hxs : strB x = xs at hc HNB HCC
            clear hg hx hz hnb hz1 hcc hf hxs HXL hbw hn0n hnNn him
            rcases f
            · have HUS := Lib.hid (show usedL sl (L.take (i + 1)) N = usedL sl (L.take i) N by
                rw [HTK.out]
                exact usedL_same (by have := HN100.out; omega) (fun j _ _ hj => by
                  have : j = n := by have := HZ.out; omega
                  rw [this]; exact HFF.out))
              go_wp2_with (first
                | (go_at_call 31; (with_reducible refine HNB.out.mono ?_); rintro e w5 ⟨rfl, hb5⟩; have c5 := cell_kept h5 hb5; have c6 := cell_kept h6 hb5; have HO5 := Lib.hid (hown.out.below hb5); have HS5 := Lib.hid (Nat.le_trans hsz.out hb5.size); have HB5 := Lib.hid (Below.trans HBW.out (hb5.mono HBW.out.size)); clear h5 h6 hb5)
                | (go_at_call 29; (with_reducible refine (HCF.out _ c5 c6).mono ?_); rintro e w6 ⟨rfl, hb6⟩; have d5 := cell_kept c5 hb6; have d6 := cell_kept c6 hb6; have HO6 := Lib.hid (HO5.out.below hb6); have HS6 := Lib.hid (Nat.le_trans HS5.out hb6.size); have HB6 := Lib.hid (Below.trans HB5.out (hb6.mono HB5.out.size)); clear c5 c6 hb6)
                | (go_at_call 32; (with_reducible refine (HCC.out _).mono ?_); rintro e w7 ⟨rfl, rfl⟩))
              go_roundg (gk - 1)
              case measure => have := HG.out; omega
              case rel => exact ⟨i + 1, HB6.out, d5, d6, Lib.hid (by rw [HUS.out]; exact HO6.out), HS6, by go_num, by have := HG.out; omega⟩
            · have HUS := Lib.hid (show usedL sl (L.take (i + 1)) N = (usedL sl (L.take i) N).set n true by
                rw [HTK.out]
                exact usedL_set (by have := HN100.out; omega) HN0.out HZ.out.symm HFF.out)
              obtain ⟨u, hu⟩ : ∃ u, u = (usedL sl (L.take i) N).getD n default := ⟨_, rfl⟩
              have HU := Lib.hid hu
              clear hu
              go_wp2_with (first
                | (go_at_call 31; (with_reducible refine HNB.out.mono ?_); rintro e w5 ⟨rfl, hb5⟩; have c5 := cell_kept h5 hb5; have c6 := cell_kept h6 hb5; have HO5 := Lib.hid (hown.out.below hb5); have HS5 := Lib.hid (Nat.le_trans hsz.out hb5.size); have HB5 := Lib.hid (Below.trans HBW.out (hb5.mono HBW.out.size)); clear h5 h6 hb5)
                | (go_at_call 29; (with_reducible refine (HCF.out _ c5 c6).mono ?_); rintro e w6 ⟨rfl, hb6⟩; have d5 := cell_kept c5 hb6; have d6 := cell_kept c6 hb6; have HO6 := Lib.hid (HO5.out.below hb6); have HS6 := Lib.hid (Nat.le_trans HS5.out hb6.size); have HB6 := Lib.hid (Below.trans HB5.out (hb6.mono HB5.out.size)); have hcu : w6.cell? ⟨w.heap.size + 1 + 1, 0 + n, none⟩ = some (.bool u) := (by rw [HU.out]; exact HO6.out.at1.cell n HNN.out); have hcv : w6.cell? ⟨w.heap.size + 1 + 1, n, none⟩ = some (.bool u) := (by rw [Nat.zero_add] at hcu; exact hcu); have hfz : w6.frozen? ⟨w.heap.size + 1 + 1, n, none⟩ = false := own_frozen HO6.out (Nat.lt_of_le_of_lt (Nat.zero_le _) HNN.out) n; clear c5 c6 hb6 hcu)
                | (go_at_call 32; (with_reducible refine (HCC.out _).mono ?_); rintro e w7 ⟨rfl, rfl⟩))
              go_roundg (gk - 1)
              case measure => have := HG.out; omega
              case rel => exact ⟨i + 1, HB6.out.setCell (Nat.le_trans (Nat.le_succ _) (Nat.le_succ _)) _, cell_set d5 (by omega), cell_set d6 (by omega), Lib.hid (by rw [HUS.out]; exact HO6.out.store (usedL_length _ _ _) n true), Lib.hid (by have := HS6.out; simpa [World.setCell] using this), by go_num, by have := HG.out; omega⟩
          · have HUS := Lib.hid (show usedL sl (L.take (i + 1)) N = usedL sl (L.take i) N by
              rw [HTK.out]
              exact usedL_same (by have := HN100.out; omega) (fun j hj1 hj2 hj => absurd (by have := HZ.out; omega) hz1))
            generalize hxs : strB x = xs at hc HNB
            clear hg hx hz hnb hxs HXL hbw him
            by_cases hz0 : (0 : Int) < z
            · have hzN : ¬ z < (N : Int) := fun h => hz1 ⟨hz0, h⟩
              clear hz1
              go_wp2_with (first
                | (go_at_call 31; (with_reducible refine HNB.out.mono ?_); rintro e w5 ⟨rfl, hb5⟩; have c5 := cell_kept h5 hb5; have c6 := cell_kept h6 hb5; have HO5 := Lib.hid (hown.out.below hb5); have HS5 := Lib.hid (Nat.le_trans hsz.out hb5.size); have HB5 := Lib.hid (Below.trans HBW.out (hb5.mono HBW.out.size)); clear h5 h6 hb5))
              go_roundg (gk - 1)
              case measure => have := HG.out; omega
              case rel => exact ⟨i + 1, HB5.out, c5, c6, Lib.hid (by rw [HUS.out]; exact HO5.out), HS5, by go_num, by have := HG.out; omega⟩
            · clear hz1
              go_wp2_with (first
                | (go_at_call 31; (with_reducible refine HNB.out.mono ?_); rintro e w5 ⟨rfl, hb5⟩; have c5 := cell_kept h5 hb5; have c6 := cell_kept h6 hb5; have HO5 := Lib.hid (hown.out.below hb5); have HS5 := Lib.hid (Nat.le_trans hsz.out hb5.size); have HB5 := Lib.hid (Below.trans HBW.out (hb5.mono HBW.out.size)); clear h5 h6 hb5))
              go_roundg (gk - 1)
              case measure => have := HG.out; omega
              case rel => exact ⟨i + 1, HB5.out, c5, c6, Lib.hid (by rw [HUS.out]; exact HO5.out), HS5, by go_num, by have := HG.out; omega⟩
        · have him : i = m := by omega
          subst him
          have HO5 := Lib.hid (show Own1 Bo 4 wr (w.heap.size + 1 + 1) (.slice (some ⟨w.heap.size + 1 + 1, 0, none⟩) N N) (usedL sl L N) by
            have := hown.out
            rw [List.take_of_length_le (by rw [HA.out.1]; exact Nat.le_refl _)] at this
            exact this)
          obtain ⟨q, hq, hqle⟩ := HK.out
          have HQ := Lib.hid hq
          have HBW := Lib.hid hbw
          have HQN := Lib.hid (show q + 1 ≤ N by have := HN.out; have := HA.out.1; omega)
          have HN100 := Lib.hid (show N ≤ 62 by have := HN.out; have := HM.out; omega)
          have hNI2 : (N : Int) ≤ 62 := by have := HN100.out; omega
          have HQ1 := Lib.hid hq.1
          clear hg hown hsz hq hqle hbw
          go_wp2
          go_loopg [13] N (fun g v13 W => ∃ n : Nat, wr = W ∧ v13 = .int .i64 n ∧ g + n = N + 1 ∧ 1 ≤ n ∧ n ≤ q)
          case atStart => exact ⟨1, rfl, rfl, rfl, Nat.le_refl _, HQ1.out⟩
          case round =>
            obtain ⟨n, rfl, rfl, hg2, hn1, hnq⟩ := hrel
            have HG2 := Lib.hid hg2
            have hnN : n < N := by have := HQN.out; omega
            have hnNI : (n : Int) < (N : Int) := by omega
            have hn0I : (0 : Int) ≤ (n : Int) := by omega
            obtain ⟨u, hu⟩ : ∃ u, u = (usedL sl L N).getD n default := ⟨_, rfl⟩
            have hcv : wr.cell? ⟨w.heap.size + 1 + 1, n, none⟩ = some (.bool u) := by
              have := HO5.out.at1.cell n hnN
              rw [Nat.zero_add, ← hu] at this
              exact this
            have huc : u = clashesF (numF sl n) L := by
              rw [hu, usedL_at sl L hnN, decide_eq_true hn1]; rfl
            have HUC := Lib.hid huc
            have HN1 := Lib.hid hn1
            have HNQ := Lib.hid hnq
            clear hg2 hn1 hnq hu huc
            rcases u
            · have HNE := Lib.hid (show n = q by
                apply Classical.byContradiction
                intro hne
                have h1 := HQ.out.2.2 n HN1.out (by have := HNQ.out; omega)
                have h2 := HUC.out
                rw [h1] at h2
                cases h2)
              have HCF := Lib.hid (fun W h5 h6 => by
                have := numbered_any n F G (w.heap.size) (w.heap.size + 1) W (by have := HN100.out; omega) HFL.out.1 HFL.out.2 h5 h6
                rw [HNUM.out n] at this
                exact this)
              clear hnN
              go_wp2_with (first
                | (go_at_call 29; (with_reducible refine (HCF.out _ h5 h6).mono ?_); rintro e w6 ⟨rfl, hb6⟩; have HB6 := Lib.hid (Below.trans HBW.out (hb6.mono HBW.out.size)); clear hb6))
              go_ret
              exact ⟨numF sl n, rfl, .inr ⟨HF.out.symm, n, by rw [HNE.out]; exact HQ.out, rfl⟩, HB6.out⟩
            · have HNE := Lib.hid (show n + 1 ≤ q by
                apply Classical.byContradiction
                intro hne
                have h0 : n = q := by have := HNQ.out; omega
                have h2 := HUC.out
                rw [h0, HQ.out.2.1] at h2
                cases h2)
              clear hnN
              go_wp2
              go_roundg (gk - 1)
              case measure => have := HG2.out; have := HNE.out; have := HQN.out; omega
              case rel => exact ⟨n + 1, rfl, by go_num, by have := HG2.out; have := HNE.out; have := HQN.out; omega, by omega, HNE.out⟩
    · rw [if_neg he] at hix
      have HIX := Lib.hid (fun w => by
        have := Tryz.strings_Index_one s 47 w
        rw [← hsl, hix] at this
        exact this)
      have c1 : (0 : Int) ≤ (k : Int) := by omega
      have c2 : (k : Int) ≤ (s.size : Int) := by omega
      have c4 : k ≤ s.size := by omega
      have HF5 := Lib.hid (show s.extract 0 k = strB (hdF sl) by rw [hsl]; exact hd_ext s k (by rw [← hsl]; exact hk))
      have HF6 := Lib.hid (show s.extract k s.size = strB (sl.drop (hdF sl).length) by
        have : (s.extract k s.size).data.toList = sl.drop (hdF sl).length := by rw [startF_len (hdF sl) s k hk, hsl]
        rw [← this, strB_of])
      have HFL := Lib.hid (show (hdF sl).length ≤ 140737488355328 ∧ (sl.drop (hdF sl).length).length ≤ 140737488355328 by
        rw [List.length_drop, hk]
        have : sl.length = s.size := by rw [hsl, b_len]
        omega)
      obtain ⟨N, hN⟩ : ∃ N, N = m + 2 := ⟨_, rfl⟩
      have hNI : (N : Int) = (m : Int) + 2 := by omega
      have HN := Lib.hid hN
      have HA := Lib.hid hA
      have HM := Lib.hid hm
      have HX := Lib.hid hx
      have HT := Lib.hid hT
      have HF := Lib.hid hf
      have HU0 := Lib.hid (usedL_nil sl N)
      have HK := Lib.hid (fresh_exists sl L (by rw [hA.1]; omega))
      have hmI : (m : Int) ≤ 60 := by omega
      clear hf hA hm hs hx hT hsl hix hle hIX hk he hN
      go_enter Tryz.func17, Tryz.ntmps17
      go_wp2_with (first
        | (go_at_call 27; (with_reducible refine HCL.out.mono ?_); rintro e w1 ⟨rfl, rfl⟩)
        | (go_at_call 28; (with_reducible refine (HIX.out _).mono ?_); rintro e w2 ⟨rfl, rfl⟩)
        | ((with_reducible show wpList _ _ _ (⟨some 34, _, _, _, _, _⟩ :: _) _ _); go_must (refine make1 Bo Tryz.underlying67 infoBo rfl rfl (.tmp 33) (.tmp 33) rfl N (by rw [hNI]; rfl) (by rw [hNI]; rfl) (by have := HN.out; have := HM.out; omega) (by omega) ?_); intro w4 hown4 hgr4))
      go_region
      go_wp2_with (first
        | ((with_reducible show wpList _ _ _ (⟨some 34, _, _, _, _, _⟩ :: _) _ _); go_must (refine make1 Bo Tryz.underlying67 infoBo rfl rfl (.tmp 33) (.tmp 33) rfl N (by rw [hNI]; rfl) (by rw [hNI]; rfl) (by have := HN.out; have := HM.out; omega) (by omega) ?_); intro w4 hown4 hgr4))
      have hs4 := fresh_start (x := s.extract 0 k) (y := s.extract k s.size) ⟨1, rfl⟩ hgr4
      have e4 : ((w.alloc (.cells #[.string (s.extract 0 k)] 9)).alloc (.cells #[.string (s.extract k s.size)] 9)).drew.heap.size = w.heap.size + 1 + 1 := by
        show ((w.alloc (.cells #[.string (s.extract 0 k)] 9)).alloc (.cells #[.string (s.extract k s.size)] 9)).heap.size = _
        simp
      have HB4 := Lib.hid hs4.2.2.1
      have HS4 := Lib.hid hs4.2.2.2
      rw [e4] at hown4
      have HO4 := Lib.hid hown4
      have H5 := Lib.hid hs4.1
      have H6 := Lib.hid hs4.2.1
      clear hs4 hown4 hgr4 e4
      obtain ⟨F, hF⟩ : ∃ F, F = hdF sl := ⟨_, rfl⟩
      obtain ⟨G, hG⟩ : ∃ G, G = sl.drop (hdF sl).length := ⟨_, rfl⟩
      have HST := Lib.hid (show (strB F ++ ⟨#[126]⟩ : ByteArray) = strB (startF sl) by
        rw [show (⟨#[126]⟩ : ByteArray) = strB [126] from rfl, strB_app, hF]; rfl)
      have HNUM := Lib.hid (fun n => show F ++ 126 :: (Lib.decDigits n ++ G) = numF sl n by rw [hF, hG]; rfl)
      rw [← hG, ← hF] at HFL
      have HC5 := Lib.hid (show w4.cell? ⟨w.heap.size, 0, none⟩ = some (.string (strB F)) by rw [hF, ← HF5.out]; exact H5.out)
      have HC6 := Lib.hid (show w4.cell? ⟨w.heap.size + 1, 0, none⟩ = some (.string (strB G)) by rw [hG, ← HF6.out]; exact H6.out)
      have hFI : ((strB F).size : Int) ≤ 140737488355328 := by rw [strB_size]; have := HFL.out.1; omega
      clear hF hG HF5 HF6 H5 H6
      go_loopg [37] m (fun g v37 W => ∃ i : Nat, Below w.heap.size w W ∧ W.cell? ⟨w.heap.size, 0, none⟩ = some (.string (strB F)) ∧ W.cell? ⟨w.heap.size + 1, 0, none⟩ = some (.string (strB G)) ∧ Hid (Own1 Bo 4 W (w.heap.size + 1 + 1) (.slice (some ⟨w.heap.size + 1 + 1, 0, none⟩) N N) (usedL sl (L.take i) N)) ∧ Hid (w.heap.size + 1 + 1 ≤ W.heap.size) ∧ v37 = .int .i64 i ∧ g + i = m)
      case atStart => exact ⟨0, HB4.out, HC5.out, HC6.out, Lib.hid (by rw [List.take_zero, HU0.out]; exact HO4.out), HS4, rfl, rfl⟩
      case round =>
        obtain ⟨i, hbw, h5, h6, hown, hsz, rfl, hg⟩ := hrel
        have HG := Lib.hid hg
        have hi0 : (0 : Int) ≤ (i : Int) := by omega
        have hiI : (i : Int) ≤ (m : Int) := by omega
        by_cases hi : (i : Int) < (m : Int)
        · have him : i < m := by omega
          obtain ⟨b, o, rfl⟩ := HA.out.some_ (by omega)
          obtain ⟨x, hx⟩ : ∃ x, x = L.getD i default := ⟨_, rfl⟩
          have hc : wr.cell? ⟨b, o + i, none⟩ = some (.string (strB x)) := by rw [hx]; exact (HA.out.below (hbw)).cell i him
          have HXL := Lib.hid (show (strB x).size ≤ 140737488355328 by rw [strB_size, hx]; exact HX.out i him)
          obtain ⟨z, hz⟩ : ∃ z, z = nbF x (startF sl) := ⟨_, rfl⟩
          have hnb : Calls Tryz.prog 31 #[.string (strB x), .string (strB F ++ ⟨#[126]⟩)] wr fun e w' => e = .returned (.int .i64 z) ∧ Below wr.heap.size wr w' := by
            have := nb_any (strB x) (strB F ++ ⟨#[126]⟩) wr HXL.out (HT.out.below hbw)
            rw [HST.out, strB_list, strB_list, ← hz] at this
            rw [HST.out]; exact this
          have HNB := Lib.hid hnb
          have HTK := Lib.hid (show L.take (i + 1) = L.take i ++ [x] by rw [hx]; exact take_snoc (by rw [HA.out.1]; exact him))
          have HBW := Lib.hid hbw
          have HZ := Lib.hid hz
          have HN100 := Lib.hid (show N ≤ 62 by have := HN.out; have := HM.out; omega)
          by_cases hz1 : (0 : Int) < z ∧ z < (N : Int)
          · obtain ⟨n, rfl⟩ := Int.eq_ofNat_of_zero_le (show 0 ≤ z by omega)
            have hn0 : (0 : Int) < (n : Int) := hz1.1
            have hnN : (n : Int) < (N : Int) := hz1.2
            have hn0n : 0 < n := by omega
            have hnNn : n < N := by omega
            have HCF := Lib.hid (fun W h5 h6 => by
              have := numbered_any n F G (w.heap.size) (w.heap.size + 1) W (by have := HN100.out; omega) HFL.out.1 HFL.out.2 h5 h6
              rw [HNUM.out n] at this
              exact this)
            obtain ⟨f, hf⟩ : ∃ f, clashF (numF sl n) x = f := ⟨_, rfl⟩
            have hcc : ∀ W, Calls Tryz.prog 32 #[.string (strB (numF sl n)), .string (strB x)] W fun e w' => e = .returned (.bool f) ∧ W = w' := by
              intro W
              have := clash_any (strB (numF sl n)) (strB x) W
              rw [strB_list, strB_list, hf] at this
              exact this
            have HCC := Lib.hid hcc
            have HFF := Lib.hid hf
            have HNN := Lib.hid hnNn
            have HN0 := Lib.hid hn0n
            generalize hxs : strB x = xs at hc HNB HCC
            clear hg hx hz hnb hz1 hcc hf hxs HXL hbw hn0n hnNn him
            rcases f
            · have HUS := Lib.hid (show usedL sl (L.take (i + 1)) N = usedL sl (L.take i) N by
                rw [HTK.out]
                exact usedL_same (by have := HN100.out; omega) (fun j _ _ hj => by
                  have : j = n := by have := HZ.out; omega
                  rw [this]; exact HFF.out))
              go_wp2_with (first
                | (go_at_call 31; (with_reducible refine HNB.out.mono ?_); rintro e w5 ⟨rfl, hb5⟩; have c5 := cell_kept h5 hb5; have c6 := cell_kept h6 hb5; have HO5 := Lib.hid (hown.out.below hb5); have HS5 := Lib.hid (Nat.le_trans hsz.out hb5.size); have HB5 := Lib.hid (Below.trans HBW.out (hb5.mono HBW.out.size)); clear h5 h6 hb5)
                | (go_at_call 29; (with_reducible refine (HCF.out _ c5 c6).mono ?_); rintro e w6 ⟨rfl, hb6⟩; have d5 := cell_kept c5 hb6; have d6 := cell_kept c6 hb6; have HO6 := Lib.hid (HO5.out.below hb6); have HS6 := Lib.hid (Nat.le_trans HS5.out hb6.size); have HB6 := Lib.hid (Below.trans HB5.out (hb6.mono HB5.out.size)); clear c5 c6 hb6)
                | (go_at_call 32; (with_reducible refine (HCC.out _).mono ?_); rintro e w7 ⟨rfl, rfl⟩))
              go_roundg (gk - 1)
              case measure => have := HG.out; omega
              case rel => exact ⟨i + 1, HB6.out, d5, d6, Lib.hid (by rw [HUS.out]; exact HO6.out), HS6, by go_num, by have := HG.out; omega⟩
            · have HUS := Lib.hid (show usedL sl (L.take (i + 1)) N = (usedL sl (L.take i) N).set n true by
                rw [HTK.out]
                exact usedL_set (by have := HN100.out; omega) HN0.out HZ.out.symm HFF.out)
              obtain ⟨u, hu⟩ : ∃ u, u = (usedL sl (L.take i) N).getD n default := ⟨_, rfl⟩
              have HU := Lib.hid hu
              clear hu
              go_wp2_with (first
                | (go_at_call 31; (with_reducible refine HNB.out.mono ?_); rintro e w5 ⟨rfl, hb5⟩; have c5 := cell_kept h5 hb5; have c6 := cell_kept h6 hb5; have HO5 := Lib.hid (hown.out.below hb5); have HS5 := Lib.hid (Nat.le_trans hsz.out hb5.size); have HB5 := Lib.hid (Below.trans HBW.out (hb5.mono HBW.out.size)); clear h5 h6 hb5)
                | (go_at_call 29; (with_reducible refine (HCF.out _ c5 c6).mono ?_); rintro e w6 ⟨rfl, hb6⟩; have d5 := cell_kept c5 hb6; have d6 := cell_kept c6 hb6; have HO6 := Lib.hid (HO5.out.below hb6); have HS6 := Lib.hid (Nat.le_trans HS5.out hb6.size); have HB6 := Lib.hid (Below.trans HB5.out (hb6.mono HB5.out.size)); have hcu : w6.cell? ⟨w.heap.size + 1 + 1, 0 + n, none⟩ = some (.bool u) := (by rw [HU.out]; exact HO6.out.at1.cell n HNN.out); have hcv : w6.cell? ⟨w.heap.size + 1 + 1, n, none⟩ = some (.bool u) := (by rw [Nat.zero_add] at hcu; exact hcu); have hfz : w6.frozen? ⟨w.heap.size + 1 + 1, n, none⟩ = false := own_frozen HO6.out (Nat.lt_of_le_of_lt (Nat.zero_le _) HNN.out) n; clear c5 c6 hb6 hcu)
                | (go_at_call 32; (with_reducible refine (HCC.out _).mono ?_); rintro e w7 ⟨rfl, rfl⟩))
              go_roundg (gk - 1)
              case measure => have := HG.out; omega
              case rel => exact ⟨i + 1, HB6.out.setCell (Nat.le_trans (Nat.le_succ _) (Nat.le_succ _)) _, cell_set d5 (by omega), cell_set d6 (by omega), Lib.hid (by rw [HUS.out]; exact HO6.out.store (usedL_length _ _ _) n true), Lib.hid (by have := HS6.out; simpa [World.setCell] using this), by go_num, by have := HG.out; omega⟩
          · have HUS := Lib.hid (show usedL sl (L.take (i + 1)) N = usedL sl (L.take i) N by
              rw [HTK.out]
              exact usedL_same (by have := HN100.out; omega) (fun j hj1 hj2 hj => absurd (by have := HZ.out; omega) hz1))
            generalize hxs : strB x = xs at hc HNB
            clear hg hx hz hnb hxs HXL hbw him
            by_cases hz0 : (0 : Int) < z
            · have hzN : ¬ z < (N : Int) := fun h => hz1 ⟨hz0, h⟩
              clear hz1
              go_wp2_with (first
                | (go_at_call 31; (with_reducible refine HNB.out.mono ?_); rintro e w5 ⟨rfl, hb5⟩; have c5 := cell_kept h5 hb5; have c6 := cell_kept h6 hb5; have HO5 := Lib.hid (hown.out.below hb5); have HS5 := Lib.hid (Nat.le_trans hsz.out hb5.size); have HB5 := Lib.hid (Below.trans HBW.out (hb5.mono HBW.out.size)); clear h5 h6 hb5))
              go_roundg (gk - 1)
              case measure => have := HG.out; omega
              case rel => exact ⟨i + 1, HB5.out, c5, c6, Lib.hid (by rw [HUS.out]; exact HO5.out), HS5, by go_num, by have := HG.out; omega⟩
            · clear hz1
              go_wp2_with (first
                | (go_at_call 31; (with_reducible refine HNB.out.mono ?_); rintro e w5 ⟨rfl, hb5⟩; have c5 := cell_kept h5 hb5; have c6 := cell_kept h6 hb5; have HO5 := Lib.hid (hown.out.below hb5); have HS5 := Lib.hid (Nat.le_trans hsz.out hb5.size); have HB5 := Lib.hid (Below.trans HBW.out (hb5.mono HBW.out.size)); clear h5 h6 hb5))
              go_roundg (gk - 1)
              case measure => have := HG.out; omega
              case rel => exact ⟨i + 1, HB5.out, c5, c6, Lib.hid (by rw [HUS.out]; exact HO5.out), HS5, by go_num, by have := HG.out; omega⟩
        · have him : i = m := by omega
          subst him
          have HO5 := Lib.hid (show Own1 Bo 4 wr (w.heap.size + 1 + 1) (.slice (some ⟨w.heap.size + 1 + 1, 0, none⟩) N N) (usedL sl L N) by
            have := hown.out
            rw [List.take_of_length_le (by rw [HA.out.1]; exact Nat.le_refl _)] at this
            exact this)
          obtain ⟨q, hq, hqle⟩ := HK.out
          have HQ := Lib.hid hq
          have HBW := Lib.hid hbw
          have HQN := Lib.hid (show q + 1 ≤ N by have := HN.out; have := HA.out.1; omega)
          have HN100 := Lib.hid (show N ≤ 62 by have := HN.out; have := HM.out; omega)
          have hNI2 : (N : Int) ≤ 62 := by have := HN100.out; omega
          have HQ1 := Lib.hid hq.1
          clear hg hown hsz hq hqle hbw
          go_wp2
          go_loopg [13] N (fun g v13 W => ∃ n : Nat, wr = W ∧ v13 = .int .i64 n ∧ g + n = N + 1 ∧ 1 ≤ n ∧ n ≤ q)
          case atStart => exact ⟨1, rfl, rfl, rfl, Nat.le_refl _, HQ1.out⟩
          case round =>
            obtain ⟨n, rfl, rfl, hg2, hn1, hnq⟩ := hrel
            have HG2 := Lib.hid hg2
            have hnN : n < N := by have := HQN.out; omega
            have hnNI : (n : Int) < (N : Int) := by omega
            have hn0I : (0 : Int) ≤ (n : Int) := by omega
            obtain ⟨u, hu⟩ : ∃ u, u = (usedL sl L N).getD n default := ⟨_, rfl⟩
            have hcv : wr.cell? ⟨w.heap.size + 1 + 1, n, none⟩ = some (.bool u) := by
              have := HO5.out.at1.cell n hnN
              rw [Nat.zero_add, ← hu] at this
              exact this
            have huc : u = clashesF (numF sl n) L := by
              rw [hu, usedL_at sl L hnN, decide_eq_true hn1]; rfl
            have HUC := Lib.hid huc
            have HN1 := Lib.hid hn1
            have HNQ := Lib.hid hnq
            clear hg2 hn1 hnq hu huc
            rcases u
            · have HNE := Lib.hid (show n = q by
                apply Classical.byContradiction
                intro hne
                have h1 := HQ.out.2.2 n HN1.out (by have := HNQ.out; omega)
                have h2 := HUC.out
                rw [h1] at h2
                cases h2)
              have HCF := Lib.hid (fun W h5 h6 => by
                have := numbered_any n F G (w.heap.size) (w.heap.size + 1) W (by have := HN100.out; omega) HFL.out.1 HFL.out.2 h5 h6
                rw [HNUM.out n] at this
                exact this)
              clear hnN
              go_wp2_with (first
                | (go_at_call 29; (with_reducible refine (HCF.out _ h5 h6).mono ?_); rintro e w6 ⟨rfl, hb6⟩; have HB6 := Lib.hid (Below.trans HBW.out (hb6.mono HBW.out.size)); clear hb6))
              go_ret
              exact ⟨numF sl n, rfl, .inr ⟨HF.out.symm, n, by rw [HNE.out]; exact HQ.out, rfl⟩, HB6.out⟩
            · have HNE := Lib.hid (show n + 1 ≤ q by
                apply Classical.byContradiction
                intro hne
                have h0 : n = q := by have := HNQ.out; omega
                have h2 := HUC.out
                rw [h0, HQ.out.2.1] at h2
                cases h2)
              clear hnN
              go_wp2
              go_roundg (gk - 1)
              case measure => have := HG2.out; have := HNE.out; have := HQN.out; omega
              case rel => exact ⟨n + 1, rfl, by go_num, by have := HG2.out; have := HNE.out; have := HQN.out; omega, by omega, HNE.out⟩
end Go.Proofs.YtipoielcmaegaaaGreatDoor
