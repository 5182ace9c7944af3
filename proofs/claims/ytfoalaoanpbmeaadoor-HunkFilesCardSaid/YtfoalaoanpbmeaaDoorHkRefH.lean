/-
  The document's Hunks, walked.
-/
import Derived.Test.YtfoalaoanpbmeaaDoorHkRefPut
import Derived.Deep.RegionHeld3
namespace Go.Proofs.YtfoalaoanpbmeaaDoor
open Go.RowKit Go.Lib My

theorem wp_appG_told {α : Type} [Inhabited α] (K : Kind α) {T E : TypeId} {z : Value} {by_ : Nat} (hU : Tryd.prog.underlying T = some (.slice E)) (hI : (Tryd.prog.info? E).map (fun i => (i.zero, i.size, i.bytes)) = some (some z, K.k, by_)) (hz : z.cells.size = K.k)
    {w : World} {o : Oper} {a : Act} {K' : Act → World → Prop} {Q : Exit → Act → World → Prop} (s x : Operand)
    (ho : o.op = .call { callee := .builtin .append, args := #[s, x], argTypes := #[T, T] })
    (base : Nat) (v : Value) (l : List α) (hs : a.eval s = v) (hown : OwnG K E w base v l)
    (sa : Option Addr) (m c : Nat) (src : List α) (hx : a.eval x = .slice sa m c) (hsrc : AtG K w sa m c src)
    (h48 : (l.length + m) * (by_ + 1) ≤ 140737488355328) (hbase : base ≤ w.heap.size) (r : Nat) (hr : r = l.length + m)
    (h : ∀ a' c' w', OwnG K E w' base (.slice a' r c') (l ++ src) → w.grownBy w' v.ownBlock → Told w v (.slice a' r c') → K' (a.put o.dst (.slice a' r c')) w') : o.wp Tryd.prog a w K' Q := by
  obtain ⟨a', c', w', hrun, h1, h2, h3⟩ := run_appG_told K o.type hU hI hz w base v l hown sa m c src hsrc h48 hbase r hr
  exact Lib.wp_append_run _ s x _ _ ho _ _ hs hx _ _ hrun (h a' c' w' h1 h2 h3)
/-- What the document's Hunks answers. -/
def RTopIs (R : List HkV × Nat) (w : World) (e : Ending) (w' : World) : Prop := ∃ a c base V, e = .returned (.tuple #[.slice a V.length c, .int .i64 (R.2 : Nat)]) ∧ V.map (·.1) = R.1 ∧ RkH w' base a c V ∧ w.heap.size ≤ base ∧ Below w.heap.size w w'
theorem rtop_none (e : Nat) (w w' : World) (hb : Below w.heap.size w w') : RTopIs ([], e) w (.returned (.tuple #[.slice none 0 0, .int .i64 (e : Nat)])) w' := ⟨none, 0, w.heap.size, [], rfl, rfl, rk_nil _ _, Nat.le_refl _, hb⟩
theorem rmoves_ms {P Q ms : List Int} (hms : scr P Q = ms) (aa ab : Option Addr) (n m ca cb : Nat) (w : World) (ha : Runs w aa n ca P) (hb : Runs w ab m cb Q) (hA : n ≤ 4096) (hB : m ≤ 4096) (N : Nat) (hN : ms.length = N) :
    Calls Tryd.prog 23 #[.slice aa n ca, .slice ab m cb] w fun e w' => ∃ a c, e = .returned (.tuple #[.slice a N c, .int .i64 0]) ∧ Bytes w' a N c (mvB ms) ∧ Below w.heap.size w w' := by
  subst hms hN
  exact (refMoves_any P Q aa ab n m ca cb w ha hb hA hB).mono fun e w' ⟨a, c, h1, h2, h3⟩ => ⟨a, c, h1, h2.isBytes, h3⟩
set_option maxRecDepth 100000 in
set_option maxHeartbeats 16000000 in
theorem refHunks_any (s t : List UInt8) (w : World) (hs : s.length ≤ 1000) (ht : t.length ≤ 1000) :
    Calls Tryd.prog 9 #[.string (strB s), .string (strB t)] w (RTopIs (topF s t) w) := by
  obtain ⟨qa, hqa⟩ : ∃ q, txtF s = q := ⟨_, rfl⟩
  obtain ⟨qb, hqb⟩ : ∃ q, txtF t = q := ⟨_, rfl⟩
  have H1 := Lib.hid (fun (W : World) => refIsT_any (strB s) qa W (by rw [strB_size]; omega) (by rw [strB_list, isT_txt]; exact hqa))
  have H2 := Lib.hid (fun (W : World) => refIsT_any (strB t) qb W (by rw [strB_size]; omega) (by rw [strB_list, isT_txt]; exact hqb))
  have HZ : Hid (s.length ≤ 1000 ∧ t.length ≤ 1000) := Lib.hid ⟨hs, ht⟩
  cases qa with
  | false =>
    have e : topF s t = ([], 5) := by unfold topF; rw [hqa]; rfl
    rw [e]
    clear hs ht hqa hqb e
    go_enter Tryd.func9, Tryd.ntmps9
    go_wp2_with (go_at_call 21; (with_reducible refine (H1.out _).mono ?_); rintro e w1 ⟨rfl, hb⟩; have HB1 := Lib.hid hb; clear hb)
    go_ret2
    exact rtop_none 5 _ _ HB1.out
  | true =>
    cases qb with
    | false =>
      have e : topF s t = ([], 5) := by unfold topF; rw [hqa, hqb]; rfl
      rw [e]
      clear hs ht hqa hqb e
      go_enter Tryd.func9, Tryd.ntmps9
      go_wp2_with (first
        | (go_at_call 21; (with_reducible refine (H1.out w).mono ?_); rintro e w1 ⟨rfl, hb⟩; have HB1 := Lib.hid hb; clear hb)
        | (go_at_call 21; (with_reducible refine (H2.out w1).mono ?_); rintro e w2 ⟨rfl, hb⟩; have HB2 := Lib.hid (HB1.out.trans (hb.mono HB1.out.size)); clear hb))
      go_ret2
      exact rtop_none 5 _ _ HB2.out
    | true =>
      obtain ⟨A, hA⟩ : ∃ A, linesF s = A := ⟨_, rfl⟩
      obtain ⟨B, hB⟩ : ∃ B, linesF t = B := ⟨_, rfl⟩
      have HSA := Lib.hid (fun (W : World) => refSplit_any s W (by omega))
      have HSB := Lib.hid (fun (W : World) => refSplit_any t W (by omega))
      rw [hA] at HSA
      rw [hB] at HSB
      have HAN : Hid (A.length ≤ 1000 ∧ B.length ≤ 1000) := Lib.hid ⟨by have := lines_len s; rw [hA] at this; omega, by have := lines_len t; rw [hB] at this; omega⟩
      have HAL : Hid ((∀ x ∈ A, x.length ≤ 1000) ∧ (∀ x ∈ B, x.length ≤ 1000)) := Lib.hid ⟨fun x hx => Nat.le_trans (lines_small s x (hA ▸ hx)) hs, fun x hx => Nat.le_trans (lines_small t x (hB ▸ hx)) ht⟩
      have e : topF s t = (hunksF A B, 0) := by unfold topF; rw [hqa, hqb, hA, hB]; simp only [Bool.and_self, if_true]; rw [if_neg (by have := HAN.out; omega)]
      obtain ⟨Z, hZ⟩ : ∃ Z, hunksF A B = Z := ⟨_, rfl⟩
      rw [e, hZ]
      obtain ⟨ms, hms⟩ : ∃ ms, scrL A B = ms := ⟨_, rfl⟩
      obtain ⟨f, hf⟩ : ∃ f : Ln → Int, (fun x => (((A ++ B).idxOf x : Nat) : Int)) = f := ⟨_, rfl⟩
      have HFX : Hid (∀ x, (((A ++ B).idxOf x : Nat) : Int) = f x) := Lib.hid (fun x => congrFun hf x)
      have HSC : Hid (scr (A.map f) (B.map f) = ms) := Lib.hid (by rw [← hf, ← hms]; exact idx_scr A B)
      have HGO0 : Hid (hkGo ms A B (ms.drop 0) 0 0 0 false [] = Z) := Lib.hid (by rw [← hZ, ← hms]; rfl)
      have HFT0 : Hid (Fit (ms.drop 0) (A.drop 0) (B.drop 0)) := Lib.hid (hms ▸ fit_scr A B)
      have HMV : Hid (∀ m ∈ ms, m = 1 ∨ m = 2 ∨ m = 3) := Lib.hid (hms ▸ fit_moves (fit_scr A B))
      obtain ⟨N, hN⟩ : ∃ N, ms.length = N := ⟨_, rfl⟩
      have HN : Hid (ms.length = N ∧ N ≤ 2000) := Lib.hid ⟨hN, by have h1 := fit_len (fit_scr A B); rw [hms] at h1; have h2 := HAN.out; omega⟩
      clear hs ht hqa hqb e hA hB hZ hms hf hN
      go_enter Tryd.func9, Tryd.ntmps9
      go_wp2_with (first
        | (go_at_call 21; (with_reducible refine (H1.out w).mono ?_); rintro e w1 ⟨rfl, hb⟩; have HB1 := Lib.hid hb; clear hb)
        | (go_at_call 21; (with_reducible refine (H2.out w1).mono ?_); rintro e w2 ⟨rfl, hb⟩; have HB2 := Lib.hid (HB1.out.trans (hb.mono HB1.out.size)); clear hb)
        | (go_at_call 14; (with_reducible refine (HSA.out w2).mono ?_); rintro e w3 ⟨a6, n6, c6, rfl, ho, hb⟩; have HX3 := Lib.hid ho; have HB3 := Lib.hid (HB2.out.trans (hb.mono HB2.out.size)); clear ho hb)
        | (go_at_call 14; (with_reducible refine (HSB.out w3).mono ?_); rintro e w4 ⟨a7, n7, c7, rfl, ho, hb⟩; have HY4 := Lib.hid ho; have HX4 := Lib.hid (HX3.out.below hb); have HB4 := Lib.hid (HB3.out.trans (hb.mono HB3.out.size)); have HD0 : Hid (OwnG lnK 9 (w4.alloc (.cells #[] 9)) w4.heap.size (.slice (some ⟨w4.heap.size, 0, none⟩) 0 0) ([] : List Ln)) := Lib.hid (OwnG.lit rfl #[] rfl); have hb5 : Below w4.heap.size w4 (w4.alloc (.cells #[] 9)) := (Below.refl _ _).alloc (Nat.le_refl _) _; have HX5 := Lib.hid (HX4.out.below hb5); have HB5 := Lib.hid hb5; clear ho hb hb5)
        | (at_builtin; (with_reducible show wpList _ _ _ (⟨some 37, _, _, _, _, _⟩ :: _) _ _); go_must (refine appG lnK Tryd.underlying32 infoStH rfl rfl _ _ rfl w4.heap.size _ ([] : List Ln) rfl HD0.out a6 n6 c6 A rfl HX5.out (by have h1 := HX4.out.1; have h2 := HAN.out; simp only [List.length_nil]; omega) (by simp) n6 (by simp) ?_); intro a8 c8 w6 ho hg; have HD6 := Lib.hid ho; have HB6 := Lib.hid (HB5.out.grown hg (by simp) (fun k h => (HD0.out.lt k h).1)); clear ho hg)
        | (at_builtin; go_must (refine appG lnK Tryd.underlying32 infoStH rfl rfl _ _ rfl w4.heap.size _ A rfl HD6.out a7 n7 c7 B rfl (HY4.out.below HB6.out) (by have h1 := HY4.out.1; have h2 := HAN.out; omega) HB6.out.size (n6 + n7) (by rw [← HX4.out.1]) ?_); intro a9 c9 w7 ho hg; have HD7 := Lib.hid ho; have HB7 := Lib.hid (HB6.out.grown hg HB6.out.size (fun k h => (HD6.out.lt k h).1)); clear ho hg))
      have HDA := Lib.hid HD7.out.atG
      have HXA := Lib.hid (HX4.out.below HB7.out)
      have HYA := Lib.hid (HY4.out.below HB7.out)
      have HBA := Lib.hid (HB4.out.trans (HB7.out.mono HB4.out.size))
      have HNN : Hid (A.length = n6 ∧ B.length = n7) := Lib.hid ⟨HXA.out.1, HYA.out.1⟩
      clear HD0 HD6 HD7 HB5 HB6 HB7 HX3 HX4 HX5 HY4 HB1 HB2 HB3 HB4 H1 H2 HSA HSB
      go_loopg [9, 11] n6 (fun gk v9 v11 W => ∃ (i : Nat) (a4 : Option Addr) (n4 c4 : Nat), v11 = .int .i64 (i : Nat) ∧ v9 = .slice a4 n4 c4 ∧ Hid (gk + i = n6) ∧ Hid (OwnR W w7.heap.size (.slice a4 n4 c4) ((A.take i).map f)) ∧ Hid (Below w7.heap.size w7 W))
      case atStart => exact ⟨0, none, 0, 0, rfl, rfl, Lib.hid rfl, Lib.hid (OwnR.nil _ _), Lib.hid (Below.refl _ _)⟩
      case round =>
        obtain ⟨i, a10, n10, c10, rfl, rfl, HI, HOP, HBP⟩ := hrel
        by_cases hi : (i : Int) < (n6 : Int)
        · have hR := HXA.out.below (HBP.out)
          obtain ⟨b, off, rfl⟩ := hR.some_ (by omega)
          obtain ⟨x, hx⟩ : ∃ x, A.getD i [] = x := ⟨_, rfl⟩
          have hil : i < A.length := by have h1 := HNN.out; omega
          have hcell := ln_cell hR i (by omega)
          rw [hx] at hcell
          have HST : Hid ((A.take (i + 1)).map f = (A.take i).map f ++ [f x]) := Lib.hid (by rw [take_snoc A i [] hil, hx, List.map_append]; rfl)
          have HLE : Hid (((A.take i).map f).length ≤ 1000) := Lib.hid (by rw [List.length_map, List.length_take]; have := HAN.out; omega)
          have HNU := Lib.hid (refNumber_any a9 (n6 + n7) c9 (A ++ B) x wr (HDA.out.below (HBP.out)) (by have h1 := HNN.out; have h2 := HAN.out; omega))
          rw [HFX.out] at HNU
          have HIN : Hid (i < n6) := Lib.hid (by omega)
          have hi0 : (0 : Int) ≤ (i : Int) := by omega
          have W1 : IntKind.i64.wrap ((i : Int) + 1) = (i : Int) + 1 := IntWalk.i64_in _ (by have h1 := HNN.out; have h2 := HAN.out; omega)
          clear hR hx hil
          go_wp2_with (first
            | (go_at_call 22; (with_reducible refine HNU.out.mono ?_); rintro e w5 ⟨rfl, rfl⟩)
            | (at_builtin; go_must (refine app_runs rfl _ _ rfl _ _ ((A.take i).map f) rfl (HOP.out.alloc _) (some ⟨w5.heap.size, 0, none⟩) 1 1 [f x] rfl (runs_one _ _) (by have h1 := HLE.out; omega) (by have := HBP.out.size; simp; omega) ?_); intro v6 w6 ho hg; obtain ⟨a6', n6', c6', rfl, _⟩ := ho.runs; have HO6 := Lib.hid ho; have HB6 := Lib.hid ((HBP.out.alloc HBP.out.size _).grown hg (by have := HBP.out.size; simp; omega) (fun k h => HOP.out.grown k h)); clear ho hg))
          go_roundg (gk - 1)
          case measure => have h1 := HI.out; have h2 := HIN.out; omega
          case rel => exact ⟨i + 1, a6', n6', c6', by go_num, rfl, Lib.hid (by have h1 := HI.out; have h2 := HIN.out; omega), Lib.hid (by rw [HST.out]; exact HO6.out), HB6⟩
        · have hin : i = n6 := by have := HI.out; omega
          have ho := HOP.out.isRuns
          rw [List.take_of_length_le (by have h1 := HNN.out; omega)] at ho
          have HRP := Lib.hid ho
          clear ho hin
          go_wp2
          go_loopg [10, 12] n7 (fun gk v10 v12 W => ∃ (i : Nat) (a4 : Option Addr) (n4 c4 : Nat), v12 = .int .i64 (i : Nat) ∧ v10 = .slice a4 n4 c4 ∧ Hid (gk + i = n7) ∧ Hid (OwnR W wr.heap.size (.slice a4 n4 c4) ((B.take i).map f)) ∧ Hid (Below wr.heap.size wr W))
          case atStart => exact ⟨0, none, 0, 0, rfl, rfl, Lib.hid rfl, Lib.hid (OwnR.nil _ _), Lib.hid (Below.refl _ _)⟩
          case round =>
            obtain ⟨i, a11, n11, c11, rfl, rfl, HI, HOQ, HBQ⟩ := hrel
            by_cases hi : (i : Int) < (n7 : Int)
            · have hR := HYA.out.below (HBP.out.trans (HBQ.out.mono HBP.out.size))
              obtain ⟨b, off, rfl⟩ := hR.some_ (by omega)
              obtain ⟨x, hx⟩ : ∃ x, B.getD i [] = x := ⟨_, rfl⟩
              have hil : i < B.length := by have h1 := HNN.out; omega
              have hcell := ln_cell hR i (by omega)
              rw [hx] at hcell
              have HST : Hid ((B.take (i + 1)).map f = (B.take i).map f ++ [f x]) := Lib.hid (by rw [take_snoc B i [] hil, hx, List.map_append]; rfl)
              have HLE : Hid (((B.take i).map f).length ≤ 1000) := Lib.hid (by rw [List.length_map, List.length_take]; have := HAN.out; omega)
              have HNU := Lib.hid (refNumber_any a9 (n6 + n7) c9 (A ++ B) x wr (HDA.out.below (HBP.out.trans (HBQ.out.mono HBP.out.size))) (by have h1 := HNN.out; have h2 := HAN.out; omega))
              rw [HFX.out] at HNU
              have HIN : Hid (i < n7) := Lib.hid (by omega)
              have hi0 : (0 : Int) ≤ (i : Int) := by omega
              have W1 : IntKind.i64.wrap ((i : Int) + 1) = (i : Int) + 1 := IntWalk.i64_in _ (by have h1 := HNN.out; have h2 := HAN.out; omega)
              clear hR hx hil
              go_wp2_with (first
                | (go_at_call 22; (with_reducible refine HNU.out.mono ?_); rintro e w5 ⟨rfl, rfl⟩)
                | (at_builtin; go_must (refine app_runs rfl _ _ rfl _ _ ((B.take i).map f) rfl (HOQ.out.alloc _) (some ⟨w5.heap.size, 0, none⟩) 1 1 [f x] rfl (runs_one _ _) (by have h1 := HLE.out; omega) (by have := HBQ.out.size; simp; omega) ?_); intro v6 w6 ho hg; obtain ⟨a6', n6', c6', rfl, _⟩ := ho.runs; have HO6 := Lib.hid ho; have HB6 := Lib.hid ((HBQ.out.alloc HBQ.out.size _).grown hg (by have := HBQ.out.size; simp; omega) (fun k h => HOQ.out.grown k h)); clear ho hg))
              go_roundg (gk - 1)
              case measure => have h1 := HI.out; have h2 := HIN.out; omega
              case rel => exact ⟨i + 1, a6', n6', c6', by go_num, rfl, Lib.hid (by have h1 := HI.out; have h2 := HIN.out; omega), Lib.hid (by rw [HST.out]; exact HO6.out), HB6⟩
            · have hin : i = n7 := by have := HI.out; omega
              have ho := HOQ.out.isRuns
              rw [List.take_of_length_le (by have h1 := HNN.out; omega)] at ho
              have HRQ := Lib.hid ho
              clear ho hin
              have HRP2 := Lib.hid (HRP.out.below HBQ.out)
              have HBW := Lib.hid (HBA.out.trans ((HBP.out.trans (HBQ.out.mono HBP.out.size)).mono HBA.out.size))
              have HXW := Lib.hid (HXA.out.below (HBP.out.trans (HBQ.out.mono HBP.out.size)))
              have HYW := Lib.hid (HYA.out.below (HBP.out.trans (HBQ.out.mono HBP.out.size)))
              have HMO := Lib.hid (rmoves_ms HSC.out a10 a11 n10 n11 c10 c11 wr HRP2.out HRQ.out (by have h1 := HRP2.out.1; rw [List.length_map] at h1; have h2 := HAN.out; omega) (by have h1 := HRQ.out.1; rw [List.length_map] at h1; have h2 := HAN.out; omega) N HN.out.1)
              go_wp2_with (go_at_call 23; (with_reducible refine HMO.out.mono ?_); rintro e wm ⟨a13, c13, rfl, hby, hb⟩; have HBY := Lib.hid hby; have HBM := Lib.hid (HBW.out.trans (hb.mono HBW.out.size)); have HXM := Lib.hid (HXW.out.below hb); have HYM := Lib.hid (HYW.out.below hb); clear hby hb)
              clear HOP HBP HRP HOQ HBQ HRQ HRP2 HBW HXW HYW HMO HDA HXA HYA HBA HSC HFX
              clear hi
              go_loopg [15, 16, 17, 18, 19] N (fun gk v15 v16 v17 v18 v19 W => ∃ (n i j : Nat) (op : Bool) (V : List (HkV × Value)) (a : Option Addr) (c : Nat), v19 = .int .i64 (n : Nat) ∧ v16 = .int .i64 (i : Nat) ∧ v17 = .int .i64 (j : Nat) ∧ v18 = .bool op ∧ v15 = .slice a V.length c ∧ Hid (gk + n = N) ∧ Hid (RkH W wm.heap.size a c V) ∧ Hid (op = true → V ≠ []) ∧ Hid (hkGo ms A B (ms.drop n) n i j op (V.map (·.1)) = Z) ∧ Hid (Fit (ms.drop n) (A.drop i) (B.drop j)) ∧ Hid (i ≤ n ∧ j ≤ n) ∧ Hid (V.length ≤ n ∧ ∀ x ∈ V, x.1.ls.length ≤ n) ∧ Hid (Below wm.heap.size wm W))
              case atStart => exact ⟨0, 0, 0, false, [], none, 0, rfl, rfl, rfl, rfl, rfl, Lib.hid rfl, Lib.hid (rk_nil _ _), Lib.hid (fun h => by cases h), HGO0, HFT0, Lib.hid ⟨Nat.le_refl _, Nat.le_refl _⟩, Lib.hid ⟨Nat.le_refl _, fun x hx => by cases hx⟩, Lib.hid (Below.refl _ _)⟩
              case round =>
                clear HGO0 HFT0
                obtain ⟨n, i, j, op, V, ar, cr, rfl, rfl, rfl, rfl, rfl, HI, HRK, HOP, HGO, HFT, HIJ, HVN, HBW⟩ := hrel
                by_cases hi : (n : Int) < (N : Int)
                · have HNL : Hid (n < N) := Lib.hid (by omega)
                  have HBYW := Lib.hid (HBY.out.below HBW.out)
                  obtain ⟨b13, o13, rfl⟩ := bytes_at0 HBY.out (by omega)
                  have hn0 : (0 : Int) ≤ (n : Int) := by omega
                  have hnN := HN.out.2
                  have W1 : IntKind.i64.wrap ((n : Int) + 1) = (n : Int) + 1 := IntWalk.i64_in _ (by omega)
                  have W2 : IntKind.i64.wrap ((n : Int) - 3) = (n : Int) - 3 := IntWalk.i64_in _ (by omega)
                  have W3 : IntKind.i64.wrap ((n : Int) + 3) = (n : Int) + 3 := IntWalk.i64_in _ (by omega)
                  obtain ⟨V1, hV1⟩ : ∃ k, V.length = k := ⟨_, rfl⟩
                  rw [hV1]
                  have HV1 := Lib.hid hV1
                  clear hV1
                  go_wp2
                  obtain ⟨wo, hwo⟩ : ∃ W, W = wr := ⟨_, rfl⟩
                  have HWO := Lib.hid hwo
                  have HBYo := Lib.hid (show Bytes wo (some ⟨b13, o13, none⟩) N c13 (mvB ms) by rw [hwo]; exact HBYW.out)
                  have HRKo := Lib.hid (show RkH wo wm.heap.size ar cr V by rw [hwo]; exact HRK.out)
                  have HBWo := Lib.hid (show Below wm.heap.size wm wo by rw [hwo]; exact HBW.out)
                  clear hwo
                  go_loopg [20, 21] 7 (fun gq v20 v21 W' => ∃ (q : Nat) (kk : Int), v21 = .int .i64 kk ∧ v20 = .bool (nearQ ms n q) ∧ Hid (kk = (n : Int) - 3 + (q : Int)) ∧ Hid (gq + q = 7) ∧ Hid (wo = W'))
                  case atStart => exact ⟨0, (n : Int) - 3, by go_num, rfl, Lib.hid (by simp), Lib.hid rfl, HWO⟩
                  case round =>
                    obtain ⟨q, kk, rfl, rfl, HKK, HQ, HWI⟩ := hrel
                    have hWI := HWI.out
                    subst hWI
                    have hkk := HKK.out
                    have W4 : IntKind.i64.wrap (kk + 1) = kk + 1 := IntWalk.i64_in _ (by have := HQ.out; omega)
                    by_cases hq : kk ≤ (n : Int) + 3
                    · have HQ7 : Hid (q < 7) := Lib.hid (by omega)
                      have hd : decide (kk ≤ (n : Int) + 3) = true := decide_eq_true hq
                      have HNS := Lib.hid (nearQ_succ ms n q)
                      cases hnq : nearQ ms n q with
                      | true =>
                        rw [hnq] at HNS
                        have HE : Hid (nearQ ms n (q + 1) = true) := Lib.hid (by rw [HNS.out]; rfl)
                        clear hkk hq
                        go_wp2
                        go_roundg (gk - 1)
                        case measure => have h1 := HQ.out; have h2 := HQ7.out; omega
                        case rel => exact ⟨q + 1, kk + 1, by go_num, by rw [HE.out], Lib.hid (by have h1 := HKK.out; omega), Lib.hid (by have h1 := HQ.out; have h2 := HQ7.out; omega), Lib.hid rfl⟩
                      | false =>
                        rw [hnq, Bool.false_or] at HNS
                        by_cases hk0 : (0 : Int) ≤ kk
                        · have e0 : decide ((0 : Int) ≤ kk) = true := decide_eq_true hk0
                          obtain ⟨kn, hkn⟩ : ∃ kn : Nat, kk = (kn : Int) := ⟨kk.toNat, by omega⟩
                          subst hkn
                          have hkq : n + q - 3 = kn := by omega
                          by_cases hkN : (kn : Int) < (N : Int)
                          · have e1 : decide ((kn : Int) < (N : Int)) = true := decide_eq_true hkN
                            have hcell := mv_cell HBYo.out (k := kn) (by omega) HMV.out HN.out.1
                            obtain ⟨z, hz⟩ : ∃ z, ms.getD kn 0 = z := ⟨_, rfl⟩
                            rw [hz] at hcell
                            have hns := HNS.out
                            rw [hkq, hz, decide_eq_true (by have := HN.out.1; omega : 3 ≤ n + q ∧ kn < ms.length), Bool.true_and] at hns
                            obtain ⟨r, hr⟩ : ∃ r, (z != 1) = r := ⟨_, rfl⟩
                            have HE : Hid (nearQ ms n (q + 1) = r) := Lib.hid (by rw [hns, hr])
                            clear hkk hq hkq hns hz
                            go_wp2
                            go_roundg (gk - 1)
                            case measure => have h1 := HQ.out; have h2 := HQ7.out; omega
                            case rel => exact ⟨q + 1, (kn : Int) + 1, by go_num, by rw [HE.out], Lib.hid (by have h1 := HKK.out; omega), Lib.hid (by have h1 := HQ.out; have h2 := HQ7.out; omega), Lib.hid rfl⟩
                          · have e1 : decide ((kn : Int) < (N : Int)) = false := decide_eq_false hkN
                            have HE : Hid (nearQ ms n (q + 1) = false) := Lib.hid (by rw [HNS.out, hkq, decide_eq_false (by have := HN.out.1; omega : ¬ (3 ≤ n + q ∧ kn < ms.length))]; rfl)
                            clear hkk hq hkq
                            go_wp2
                            go_roundg (gk - 1)
                            case measure => have h1 := HQ.out; have h2 := HQ7.out; omega
                            case rel => exact ⟨q + 1, (kn : Int) + 1, by go_num, by rw [HE.out], Lib.hid (by have h1 := HKK.out; omega), Lib.hid (by have h1 := HQ.out; have h2 := HQ7.out; omega), Lib.hid rfl⟩
                        · have e0 : decide ((0 : Int) ≤ kk) = false := decide_eq_false hk0
                          have HE : Hid (nearQ ms n (q + 1) = false) := Lib.hid (by rw [HNS.out, decide_eq_false (by omega : ¬ (3 ≤ n + q ∧ n + q - 3 < ms.length))]; rfl)
                          clear hkk hq
                          go_wp2
                          go_roundg (gk - 1)
                          case measure => have h1 := HQ.out; have h2 := HQ7.out; omega
                          case rel => exact ⟨q + 1, kk + 1, by go_num, by rw [HE.out], Lib.hid (by have h1 := HKK.out; omega), Lib.hid (by have h1 := HQ.out; have h2 := HQ7.out; omega), Lib.hid rfl⟩
                    · have hq7 : q = 7 := by have := HQ.out; omega
                      have hd : decide (kk ≤ (n : Int) + 3) = false := decide_eq_false hq
                      have hnr : nearQ ms n q = nearF ms n := by rw [hq7]; exact nearQ_all ms n
                      rw [hnr]
                      clear hnr
                      have hft := HFT.out
                      have hgo := HGO.out
                      obtain ⟨m0, hm0⟩ : ∃ m, ms.getD n 0 = m := ⟨_, rfl⟩
                      have hnl : n < ms.length := by have := HN.out.1; omega
                      have hdr : ms.drop n = m0 :: ms.drop (n + 1) := by rw [List.drop_eq_getElem_cons hnl, ← hm0, List.getD_eq_getElem?_getD, List.getElem?_eq_getElem hnl]; rfl
                      rw [hdr] at hft hgo
                      have HMC : Hid (∀ W, Below wm.heap.size wm W → W.cell? ⟨b13, o13 + n, none⟩ = some (.int .u8 m0)) := Lib.hid (fun W hW => by have h1 := mv_cell (HBY.out.below hW) (k := n) HNL.out HMV.out HN.out.1; rw [hm0] at h1; exact h1)
                      have k12 := HMC.out wo HBWo.out
                      have hm := HMV.out m0 (by rw [← hm0]; exact getD_mem hnl)
                      have hxA := HXM.out.1
                      have hself := near_self hnl
                      rw [hm0] at hself
                      clear hm0 hdr HKK HQ HWI HWO HBYo HBYW HFT HGO
                      cases hnear : nearF ms n with
                      | false =>
                        obtain rfl := hself hnear
                        obtain ⟨x0, ra, rb, f1, f2, f3⟩ := fit_one hft
                        obtain ⟨u1, u2, u3⟩ := drop_step ([] : Ln) f1
                        obtain ⟨v1, v2, v3⟩ := drop_step ([] : Ln) f2
                        have HF2 : Hid (Fit (ms.drop (n + 1)) (A.drop (i + 1)) (B.drop (j + 1))) := Lib.hid (by rw [u1, v1]; exact f3)
                        have HG2 : Hid (hkGo ms A B (ms.drop (n + 1)) (n + 1) (i + 1) (j + 1) false (V.map (·.1)) = Z) := Lib.hid (by have h1 := hgo; rw [go_cons, if_neg (by rw [hnear]; decide)] at h1; exact h1)
                        have W5 : IntKind.i64.wrap ((V1 : Int) - 1) = (V1 : Int) - 1 := IntWalk.i64_in _ (by have h1 := HVN.out.1; have h2 := HV1.out; omega)
                        have W6 : IntKind.i64.wrap ((i : Int) + 1) = (i : Int) + 1 := IntWalk.i64_in _ (by have := HIJ.out; omega)
                        have W7 : IntKind.i64.wrap ((j : Int) + 1) = (j : Int) + 1 := IntWalk.i64_in _ (by have := HIJ.out; omega)
                        clear hft hgo f1 f2 f3 u1 u2 u3 v1 v2 v3 hself hnear hm hnl
                        go_wp2
                        go_roundg (N - (n + 1))
                        case measure => have h1 := HI.out; have h2 := HNL.out; omega
                        case rel => exact ⟨n + 1, i + 1, j + 1, false, V, ar, cr, by go_num, by go_num, by go_num, rfl, by rw [HV1.out], Lib.hid (by have h1 := HI.out; have h2 := HNL.out; omega), HRKo, Lib.hid (fun h => by cases h), HG2, HF2, Lib.hid (by have := HIJ.out; omega), Lib.hid ⟨Nat.le_succ_of_le HVN.out.1, fun z hz => Nat.le_succ_of_le (HVN.out.2 z hz)⟩, HBWo⟩
                      | true =>
                        have W6 : IntKind.i64.wrap ((i : Int) + 1) = (i : Int) + 1 := IntWalk.i64_in _ (by have := HIJ.out; omega)
                        have W7 : IntKind.i64.wrap ((j : Int) + 1) = (j : Int) + 1 := IntWalk.i64_in _ (by have := HIJ.out; omega)
                        have hi0 : (0 : Int) ≤ (i : Int) := by omega
                        have hj0 : (0 : Int) ≤ (j : Int) := by omega
                        clear hself hnl
                        rcases hm with rfl | rfl | rfl
                        · cases op with
                          | true =>
                            as_aux_lemma =>
                              obtain ⟨x0, ra, rb, f1, f2, f3⟩ := fit_one hft
                              obtain ⟨u1, u2, u3⟩ := drop_step ([] : Ln) f1
                              obtain ⟨v1, v2, v3⟩ := drop_step ([] : Ln) f2
                              obtain ⟨bx, ox, rfl⟩ := HXM.out.some_ (by have := HNN.out; omega)
                              obtain ⟨x, hx⟩ : ∃ x, A.getD i [] = x := ⟨_, rfl⟩
                              have HSX : Hid (∀ W, Below wm.heap.size wm W → W.cell? ⟨bx, ox + i, none⟩ = some (.string (strB x))) := Lib.hid (fun W hW => by have h1 := ln_cell (HXM.out.below hW) i (by have := HNN.out; omega); rw [hx] at h1; exact h1)
                              have HXL : Hid (x.length ≤ 1000) := Lib.hid (HAL.out.1 x (by rw [← hx]; exact getD_mem u2))
                              have hib : i < n6 := by have := HNN.out; omega
                              have hibI : (i : Int) < (n6 : Int) := by omega
                              have hibn : ¬ n6 ≤ i := by omega
                              obtain ⟨Y, hY⟩ : ∃ Y, strB (32 :: x) = Y := ⟨_, rfl⟩
                              have DC : Hid (∀ W, (Op.stringOp .add ⟨#[32]⟩ (strB x)).run Tryd.prog W = .ok (.string Y) W) := Lib.hid (fun W => by rw [← hY]; exact run_catL [32] x (by have := HXL.out; simp only [List.length_cons, List.length_nil]; omega) W)
                              have HCS : Hid (#[Value.string Y] = (lnK.cells (32 :: x)).toArray) := Lib.hid (by rw [← hY]; rfl)
                              have HF2 : Hid (Fit (ms.drop (n + 1)) (A.drop (i + 1)) (B.drop (j + 1))) := Lib.hid (by rw [u1, v1]; exact f3)
                              have HG2 : Hid (hkGo ms A B (ms.drop (n + 1)) (n + 1) (i + 1) (j + 1) true (putF (V.map (·.1)) true i j (32 :: x)) = Z) := Lib.hid (by have h1 := hgo; rw [go_cons, if_pos hnear, if_pos rfl] at h1; rw [← hx]; exact h1)
                              obtain ⟨V0, ⟨⟨f, t, ls⟩, v⟩, rfl⟩ : ∃ V0 z, V = V0 ++ [z] := ⟨V.dropLast, V.getLast (HOP.out rfl), (List.dropLast_concat_getLast (HOP.out rfl)).symm⟩
                              obtain ⟨k, hk⟩ : ∃ k, V0.length = k := ⟨_, rfl⟩
                              have HKV := Lib.hid hk
                              have hv1 := HV1.out
                              rw [len_snoc, hk] at hv1
                              subst hv1
                              have hrow := HRKo.out.row
                              obtain ⟨g, rfl, _, _, _⟩ := hrow.row (by simp)
                              obtain ⟨av, cv, hav, hat⟩ := (HRKo.out.ln (x := (⟨f, t, ls⟩, v)) (by simp)).atG_
                              obtain rfl : v = .slice av ls.length cv := hav
                              obtain ⟨m, hm2⟩ : ∃ m, ls.length = m := ⟨_, rfl⟩
                              have HLS : Hid (ls.length = m ∧ m ≤ 2000) := Lib.hid ⟨hm2, by have h1 := HVN.out.2 (⟨f, t, ls⟩, .slice av ls.length cv) (by simp); simp only at h1; omega⟩
                              obtain ⟨N1, hN1⟩ : ∃ N1, k + 1 = N1 := ⟨_, rfl⟩
                              have HN1 := Lib.hid hN1
                              have HXo := HRKo
                              rw [hm2] at HXo
                              have HXd := Lib.hid (HXo.out.below (Below.refl _ _).drew)
                              have HBd := Lib.hid HBWo.out.drew
                              have W5 : IntKind.i64.wrap ((N1 : Int) - 1) = (k : Int) := by rw [IntWalk.i64_in _ (by have h1 := HVN.out.1; rw [len_snoc] at h1; omega)]; omega
                              have hk0 : (0 : Int) ≤ (k : Int) := by omega
                              have hkN : (k : Int) < (N1 : Int) := by omega
                              have hN0 : (0 : Int) < (N1 : Int) := by omega
                              have HVE : Hid (V0.length + 1 ≤ n) := Lib.hid (by have h1 := HVN.out.1; rw [len_snoc] at h1; exact h1)
                              have HVX : Hid (∀ z ∈ V0, z.1.ls.length ≤ n) := Lib.hid (fun z hz => HVN.out.2 z (List.mem_append_left _ hz))
                              have HMS : Hid (m ≤ n) := Lib.hid (by have h1 := HVN.out.2 (⟨f, t, ls⟩, .slice av ls.length cv) (by simp); simp only at h1; omega)
                              have HPE : Hid (∀ v' : Value, (V0 ++ [((⟨f, t, ls ++ [32 :: x]⟩ : HkV), v')]).map (·.1) = putF ((V0 ++ [((⟨f, t, ls⟩ : HkV), Value.slice av ls.length cv)]).map (·.1)) true i j (32 :: x)) := Lib.hid (fun v' => put_on_eq V0 ⟨f, t, ls⟩ _ v' i j (32 :: x))
                              rw [hN1]
                              clear hk hm2 hN1 hat hrow hx hY hft hgo hnear f3 u1 u2 u3 f1 v1 v2 v3 f2
                              go_wp2_with fail
                              refine wp_region_held_drew (S := fun W => W.cell? ⟨bx, ox + i, none⟩ = some (.string (strB x))) (by kernel_rfl) (HSX.out _ HBd.out) (fun hHeld => ?_)
                              generalize wo.drew = wd at HXd HBd hHeld ⊢
                              refine wpAnyH_take (i := 0) (oi := ⟨some 132, .move (.tmp 15), _, _, _, _⟩) (v := (.slice (some ⟨g, 0, none⟩) N1 cr)) rfl (by kernel_rfl) (by kernel_rfl) (by kernel_rfl) (fun _ _ _ h => h) (Or.inl ⟨by rfl, fun W hW => by go_simp⟩) (by assumption) ?_
                              simp only [Act.put, List.setIfInBounds_toArray, List.set_cons_zero, List.set_cons_succ]
                              refine wpAnyH_take (i := 1) (oi := ⟨some 133, .move (.tmp 22), _, _, _, _⟩) (v := (.int .i64 (k : Nat))) rfl (by kernel_rfl) (by kernel_rfl) (by kernel_rfl) (fun _ _ _ h => h) (Or.inl ⟨by rfl, fun W hW => by go_simp⟩) (by assumption) ?_
                              simp only [Act.put, List.setIfInBounds_toArray, List.set_cons_zero, List.set_cons_succ]
                              refine wpAnyH_take (i := 2) (oi := ⟨some 134, .move (.tmp 15), _, _, _, _⟩) (v := (.slice (some ⟨g, 0, none⟩) N1 cr)) rfl (by kernel_rfl) (by kernel_rfl) (by kernel_rfl) (fun _ _ _ h => h) (Or.inl ⟨by rfl, fun W hW => by go_simp⟩) (by assumption) ?_
                              simp only [Act.put, List.setIfInBounds_toArray, List.set_cons_zero, List.set_cons_succ]
                              refine wpAnyH_take (i := 3) (oi := ⟨some 135, .move (.tmp 22), _, _, _, _⟩) (v := (.int .i64 (k : Nat))) rfl (by kernel_rfl) (by kernel_rfl) (by kernel_rfl) (fun _ _ _ h => h) (Or.inl ⟨by rfl, fun W hW => by go_simp⟩) (by assumption) ?_
                              simp only [Act.put, List.setIfInBounds_toArray, List.set_cons_zero, List.set_cons_succ]
                              refine wpAnyH_take (i := 4) (oi := ⟨some 136, .indexAddr 26 (.tmp 134) (.tmp 135), _, _, _, _⟩) (v := (.pointer (some ⟨g, 0 + k * 3, none⟩))) rfl (by kernel_rfl) (by kernel_rfl) (by kernel_rfl) (fun _ _ _ h => h) (Or.inl ⟨by rfl, fun W hW => by go_simp⟩) (by assumption) ?_
                              simp only [Act.put, List.setIfInBounds_toArray, List.set_cons_zero, List.set_cons_succ]
                              refine wpAnyH_take (i := 5) (oi := ⟨some 137, .fieldAddr 55 (.tmp 136) 2, _, _, _, _⟩) (v := (.pointer (some ⟨g, 0 + k * 3 + 2, none⟩))) rfl (by kernel_rfl) (by kernel_rfl) (by kernel_rfl) (fun _ _ _ h => h) (Or.inl ⟨by rfl, fun W hW => by go_simp⟩) (by assumption) ?_
                              simp only [Act.put, List.setIfInBounds_toArray, List.set_cons_zero, List.set_cons_succ]
                              refine wpAnyH_take (i := 7) (oi := ⟨some 139, .move (.tmp 6), _, _, _, _⟩) (v := (.slice (some ⟨bx, ox, none⟩) n6 c6)) rfl (by kernel_rfl) (by kernel_rfl) (by kernel_rfl) (fun _ _ _ h => h) (Or.inl ⟨by rfl, fun W hW => by go_simp⟩) (by assumption) ?_
                              simp only [Act.put, List.setIfInBounds_toArray, List.set_cons_zero, List.set_cons_succ]
                              refine wpAnyH_take (i := 8) (oi := ⟨some 140, .move (.tmp 16), _, _, _, _⟩) (v := (.int .i64 (i : Nat))) rfl (by kernel_rfl) (by kernel_rfl) (by kernel_rfl) (fun _ _ _ h => h) (Or.inl ⟨by rfl, fun W hW => by go_simp⟩) (by assumption) ?_
                              simp only [Act.put, List.setIfInBounds_toArray, List.set_cons_zero, List.set_cons_succ]
                              refine wpAnyH_take (i := 9) (oi := ⟨some 141, .indexAddr 32 (.tmp 139) (.tmp 140), _, _, _, _⟩) (v := (.pointer (some ⟨bx, ox + i, none⟩))) rfl (by kernel_rfl) (by kernel_rfl) (by kernel_rfl) (fun _ _ _ h => h) (Or.inl ⟨by rfl, fun W hW => by go_simp⟩) (by assumption) ?_
                              simp only [Act.put, List.setIfInBounds_toArray, List.set_cons_zero, List.set_cons_succ]
                              refine wpAnyH_take (i := 10) (oi := ⟨some 142, .load 9 (.tmp 141), _, _, _, _⟩) (v := (.string (strB x))) rfl (by kernel_rfl) (by kernel_rfl) (by kernel_rfl) (fun _ _ _ h => h) (Or.inl ⟨by rfl, fun W hW => by have hcell := hW; go_simp⟩) (by assumption) ?_
                              simp only [Act.put, List.setIfInBounds_toArray, List.set_cons_zero, List.set_cons_succ]
                              refine wpAnyH_take (i := 11) (oi := ⟨some 143, .binOp .add 9 (.const (.string ⟨#[32]⟩)) (.tmp 142) 9, _, _, _, _⟩) (v := (.string Y)) rfl (by kernel_rfl) (by kernel_rfl) (by kernel_rfl) (fun _ _ _ h => h) (Or.inl ⟨by rfl, fun W hW => by have hq := DC.out W; go_simp⟩) (by assumption) ?_
                              simp only [Act.put, List.setIfInBounds_toArray, List.set_cons_zero, List.set_cons_succ]
                              refine wpAnyH_ready (rs := [6, 12]) (by kernel_rfl) (by simp) ?_
                              refine AllReadyH.cons (o := ⟨some 138, .load 32 (.tmp 137), _, _, _, _⟩) rfl (fun K hK => ?_) (AllReadyH.cons (o := ⟨some 144, .buildSlice 32 1 #[(0, (.tmp 143))], _, _, _, _⟩) rfl (fun K hK => ?_) AllReadyH.nil)
                              · have k1 := HXd.out.slot0
                                rw [HKV.out] at k1
                                refine wreadyH ?_
                                go_simp
                                clear k1
                                refine hK.out _ _ hHeld (fun hHeld => ?_)
                                clear hK K
                                refine wpAnyH_ready (rs := [12]) (by kernel_rfl) (by simp) ?_
                                refine AllReadyH.cons (o := ⟨some 144, .buildSlice 32 1 #[(0, (.tmp 143))], _, _, _, _⟩) rfl (fun K hK => ?_) AllReadyH.nil
                                refine wreadyH ?_
                                go_simp
                                obtain ⟨we, hwe⟩ : ∃ W, wd.alloc (.cells #[.string Y] 9) = W := ⟨_, rfl⟩
                                have HSe : Hid (AtG lnK we (some ⟨wd.heap.size, 0, none⟩) 1 1 [32 :: x]) := Lib.hid (hwe ▸ oneG wd (32 :: x) trivial 9 _ HCS.out)
                                have hbe : Below wd.heap.size wd we := hwe ▸ (Below.refl _ _).alloc (Nat.le_refl _) _
                                have HXe := Lib.hid (HXd.out.below hbe)
                                have HBe := Lib.hid (HBd.out.trans (hbe.mono HBd.out.size))
                                clear hbe
                                rw [hwe]
                                clear hwe
                                refine hK.out _ _ (HSX.out _ HBe.out) (fun hHeld => ?_)
                                clear hK K
                                refine wpAnyH_ready (rs := [13]) (by kernel_rfl) (by simp) ?_
                                refine AllReadyH.cons (o := ⟨some 145, .call { callee := .builtin .append, args := #[(.tmp 138), (.tmp 144)], argTypes := #[32, 32] }, _, _, _, _⟩) rfl (fun K hK => ?_) AllReadyH.nil
                                refine wreadyH (wp_appG_told lnK Tryd.underlying32 infoStH rfl (.tmp 138) (.tmp 144) rfl wm.heap.size (.slice av m cv) ls rfl (HXe.out.ln (x := (⟨f, t, ls⟩, .slice av m cv)) (by simp)) _ 1 1 [32 :: x] rfl HSe.out (by have := HLS.out; omega) HBe.out.size (m + 1) (by rw [HLS.out.1]) ?_)
                                intro a6 c6 w6 ho hg ht
                                obtain ⟨z1, z2, z3⟩ := HXe.out.slot ho hg ht
                                have hL7 := HXe.out.line ho rfl hg ht
                                rw [HKV.out] at z1 z2 hL7
                                have HB6 := Lib.hid (HBe.out.grown hg HBe.out.size (fun k h => ((HXe.out.ln (x := (⟨f, t, ls⟩, .slice av m cv)) (by simp)).lt k h).1))
                                have HZ3 := Lib.hid z3
                                have HL7 := Lib.hid hL7
                                clear ho hg ht hL7 z3
                                refine hK.out _ _ (HSX.out _ HB6.out) (fun hHeld => ?_)
                                clear hK K
                                refine wpAnyH_take (i := 14) (oi := ⟨some 146, .indexAddr 26 (.tmp 132) (.tmp 133), _, _, _, _⟩) (v := (.pointer (some ⟨g, 0 + k * 3, none⟩))) rfl (by kernel_rfl) (by kernel_rfl) (by kernel_rfl) (fun _ _ _ h => h) (Or.inl ⟨by rfl, fun W hW => by go_simp⟩) (by assumption) ?_
                                simp only [Act.put, List.setIfInBounds_toArray, List.set_cons_zero, List.set_cons_succ]
                                refine wpAnyH_take (i := 15) (oi := ⟨some 147, .fieldAddr 55 (.tmp 146) 2, _, _, _, _⟩) (v := (.pointer (some ⟨g, 0 + k * 3 + 2, none⟩))) rfl (by kernel_rfl) (by kernel_rfl) (by kernel_rfl) (fun _ _ _ h => h) (Or.inl ⟨by rfl, fun W hW => by go_simp⟩) (by assumption) ?_
                                simp only [Act.put, List.setIfInBounds_toArray, List.set_cons_zero, List.set_cons_succ]
                                refine wpAnyH_ready (rs := [16]) (by kernel_rfl) (by simp) ?_
                                refine AllReadyH.cons (o := ⟨none, .store 32 (.tmp 147) (.tmp 145), _, _, _, _⟩) rfl (fun K hK => ?_) AllReadyH.nil
                                refine wreadyH ?_
                                go_simp
                                obtain ⟨w7, hw7⟩ : ∃ X, w6.setCell ⟨g, k * 3 + 2, none⟩ (.slice a6 (m + 1) c6) = X := ⟨_, rfl⟩
                                rw [hw7] at HL7
                                have HB7 : Hid (Below wm.heap.size wm w7) := Lib.hid (hw7 ▸ HB6.out.setCell (p := ⟨g, k * 3 + 2, none⟩) HZ3.out _)
                                rw [hw7]
                                clear hw7 z1 z2
                                refine hK.out _ _ (HSX.out _ HB7.out) (fun hHeld => ?_)
                                clear hK K
                                refine wpAnyH_done (by kernel_rfl) ?_ _
                                clear hHeld
                                have k14 := HMC.out w7 HB7.out
                                go_wp2
                                go_roundg (N - (n + 1))
                                case measure => have h1 := HI.out; have h2 := HNL.out; omega
                                case rel => exact ⟨n + 1, i + 1, j + 1, true, V0 ++ [((⟨f, t, ls ++ [32 :: x]⟩ : HkV), Value.slice a6 (m + 1) c6)], some ⟨g, 0, none⟩, cr, by go_num, by go_num, by go_num, rfl, by rw [len_snoc, HKV.out, HN1.out], Lib.hid (by have h1 := HI.out; have h2 := HNL.out; omega), HL7, Lib.hid (fun _ => by simp), Lib.hid (by rw [HPE.out]; exact HG2.out), HF2, Lib.hid (by have := HIJ.out; omega), Lib.hid ⟨by rw [len_snoc]; have := HVE.out; omega, fun z hz => by rcases List.mem_append.1 hz with hz | hz; exact Nat.le_succ_of_le (HVX.out z hz); rw [List.mem_singleton.1 hz]; show List.length (_ ++ _) ≤ _; rw [List.length_append]; have := HLS.out; have := HMS.out; simp only [List.length_cons, List.length_nil]; omega⟩, HB7⟩
                              · refine wreadyH ?_
                                go_simp
                                obtain ⟨we, hwe⟩ : ∃ W, wd.alloc (.cells #[.string Y] 9) = W := ⟨_, rfl⟩
                                have HSe : Hid (AtG lnK we (some ⟨wd.heap.size, 0, none⟩) 1 1 [32 :: x]) := Lib.hid (hwe ▸ oneG wd (32 :: x) trivial 9 _ HCS.out)
                                have hbe : Below wd.heap.size wd we := hwe ▸ (Below.refl _ _).alloc (Nat.le_refl _) _
                                have HXe := Lib.hid (HXd.out.below hbe)
                                have HBe := Lib.hid (HBd.out.trans (hbe.mono HBd.out.size))
                                clear hbe
                                rw [hwe]
                                clear hwe
                                refine hK.out _ _ (HSX.out _ HBe.out) (fun hHeld => ?_)
                                clear hK K
                                refine wpAnyH_ready (rs := [6]) (by kernel_rfl) (by simp) ?_
                                refine AllReadyH.cons (o := ⟨some 138, .load 32 (.tmp 137), _, _, _, _⟩) rfl (fun K hK => ?_) AllReadyH.nil
                                have k1 := HXe.out.slot0
                                rw [HKV.out] at k1
                                refine wreadyH ?_
                                go_simp
                                clear k1
                                refine hK.out _ _ hHeld (fun hHeld => ?_)
                                clear hK K
                                refine wpAnyH_ready (rs := [13]) (by kernel_rfl) (by simp) ?_
                                refine AllReadyH.cons (o := ⟨some 145, .call { callee := .builtin .append, args := #[(.tmp 138), (.tmp 144)], argTypes := #[32, 32] }, _, _, _, _⟩) rfl (fun K hK => ?_) AllReadyH.nil
                                refine wreadyH (wp_appG_told lnK Tryd.underlying32 infoStH rfl (.tmp 138) (.tmp 144) rfl wm.heap.size (.slice av m cv) ls rfl (HXe.out.ln (x := (⟨f, t, ls⟩, .slice av m cv)) (by simp)) _ 1 1 [32 :: x] rfl HSe.out (by have := HLS.out; omega) HBe.out.size (m + 1) (by rw [HLS.out.1]) ?_)
                                intro a6 c6 w6 ho hg ht
                                obtain ⟨z1, z2, z3⟩ := HXe.out.slot ho hg ht
                                have hL7 := HXe.out.line ho rfl hg ht
                                rw [HKV.out] at z1 z2 hL7
                                have HB6 := Lib.hid (HBe.out.grown hg HBe.out.size (fun k h => ((HXe.out.ln (x := (⟨f, t, ls⟩, .slice av m cv)) (by simp)).lt k h).1))
                                have HZ3 := Lib.hid z3
                                have HL7 := Lib.hid hL7
                                clear ho hg ht hL7 z3
                                refine hK.out _ _ (HSX.out _ HB6.out) (fun hHeld => ?_)
                                clear hK K
                                refine wpAnyH_take (i := 14) (oi := ⟨some 146, .indexAddr 26 (.tmp 132) (.tmp 133), _, _, _, _⟩) (v := (.pointer (some ⟨g, 0 + k * 3, none⟩))) rfl (by kernel_rfl) (by kernel_rfl) (by kernel_rfl) (fun _ _ _ h => h) (Or.inl ⟨by rfl, fun W hW => by go_simp⟩) (by assumption) ?_
                                simp only [Act.put, List.setIfInBounds_toArray, List.set_cons_zero, List.set_cons_succ]
                                refine wpAnyH_take (i := 15) (oi := ⟨some 147, .fieldAddr 55 (.tmp 146) 2, _, _, _, _⟩) (v := (.pointer (some ⟨g, 0 + k * 3 + 2, none⟩))) rfl (by kernel_rfl) (by kernel_rfl) (by kernel_rfl) (fun _ _ _ h => h) (Or.inl ⟨by rfl, fun W hW => by go_simp⟩) (by assumption) ?_
                                simp only [Act.put, List.setIfInBounds_toArray, List.set_cons_zero, List.set_cons_succ]
                                refine wpAnyH_ready (rs := [16]) (by kernel_rfl) (by simp) ?_
                                refine AllReadyH.cons (o := ⟨none, .store 32 (.tmp 147) (.tmp 145), _, _, _, _⟩) rfl (fun K hK => ?_) AllReadyH.nil
                                refine wreadyH ?_
                                go_simp
                                obtain ⟨w7, hw7⟩ : ∃ X, w6.setCell ⟨g, k * 3 + 2, none⟩ (.slice a6 (m + 1) c6) = X := ⟨_, rfl⟩
                                rw [hw7] at HL7
                                have HB7 : Hid (Below wm.heap.size wm w7) := Lib.hid (hw7 ▸ HB6.out.setCell (p := ⟨g, k * 3 + 2, none⟩) HZ3.out _)
                                rw [hw7]
                                clear hw7 z1 z2
                                refine hK.out _ _ (HSX.out _ HB7.out) (fun hHeld => ?_)
                                clear hK K
                                refine wpAnyH_done (by kernel_rfl) ?_ _
                                clear hHeld
                                have k14 := HMC.out w7 HB7.out
                                go_wp2
                                go_roundg (N - (n + 1))
                                case measure => have h1 := HI.out; have h2 := HNL.out; omega
                                case rel => exact ⟨n + 1, i + 1, j + 1, true, V0 ++ [((⟨f, t, ls ++ [32 :: x]⟩ : HkV), Value.slice a6 (m + 1) c6)], some ⟨g, 0, none⟩, cr, by go_num, by go_num, by go_num, rfl, by rw [len_snoc, HKV.out, HN1.out], Lib.hid (by have h1 := HI.out; have h2 := HNL.out; omega), HL7, Lib.hid (fun _ => by simp), Lib.hid (by rw [HPE.out]; exact HG2.out), HF2, Lib.hid (by have := HIJ.out; omega), Lib.hid ⟨by rw [len_snoc]; have := HVE.out; omega, fun z hz => by rcases List.mem_append.1 hz with hz | hz; exact Nat.le_succ_of_le (HVX.out z hz); rw [List.mem_singleton.1 hz]; show List.length (_ ++ _) ≤ _; rw [List.length_append]; have := HLS.out; have := HMS.out; simp only [List.length_cons, List.length_nil]; omega⟩, HB7⟩
                          | false =>
                            as_aux_lemma =>
                              obtain ⟨x0, ra, rb, f1, f2, f3⟩ := fit_one hft
                              obtain ⟨u1, u2, u3⟩ := drop_step ([] : Ln) f1
                              obtain ⟨v1, v2, v3⟩ := drop_step ([] : Ln) f2
                              obtain ⟨bx, ox, rfl⟩ := HXM.out.some_ (by have := HNN.out; omega)
                              obtain ⟨x, hx⟩ : ∃ x, A.getD i [] = x := ⟨_, rfl⟩
                              have HSX : Hid (∀ W, Below wm.heap.size wm W → W.cell? ⟨bx, ox + i, none⟩ = some (.string (strB x))) := Lib.hid (fun W hW => by have h1 := ln_cell (HXM.out.below hW) i (by have := HNN.out; omega); rw [hx] at h1; exact h1)
                              have HXL : Hid (x.length ≤ 1000) := Lib.hid (HAL.out.1 x (by rw [← hx]; exact getD_mem u2))
                              have hib : i < n6 := by have := HNN.out; omega
                              have hibI : (i : Int) < (n6 : Int) := by omega
                              have hibn : ¬ n6 ≤ i := by omega
                              obtain ⟨Y, hY⟩ : ∃ Y, strB (32 :: x) = Y := ⟨_, rfl⟩
                              have DC : Hid (∀ W, (Op.stringOp .add ⟨#[32]⟩ (strB x)).run Tryd.prog W = .ok (.string Y) W) := Lib.hid (fun W => by rw [← hY]; exact run_catL [32] x (by have := HXL.out; simp only [List.length_cons, List.length_nil]; omega) W)
                              have HCS : Hid (#[Value.string Y] = (lnK.cells (32 :: x)).toArray) := Lib.hid (by rw [← hY]; rfl)
                              have HF2 : Hid (Fit (ms.drop (n + 1)) (A.drop (i + 1)) (B.drop (j + 1))) := Lib.hid (by rw [u1, v1]; exact f3)
                              have HG2 : Hid (hkGo ms A B (ms.drop (n + 1)) (n + 1) (i + 1) (j + 1) true (putF (V.map (·.1)) false i j (32 :: x)) = Z) := Lib.hid (by have h1 := hgo; rw [go_cons, if_pos hnear, if_pos rfl] at h1; rw [← hx]; exact h1)
                              have HKV : Hid (V.length = V1) := HV1
                              obtain ⟨N1, hN1⟩ : ∃ N1, V1 + 1 = N1 := ⟨_, rfl⟩
                              have HN1 := Lib.hid hN1
                              have HVE : Hid (V.length ≤ n) := Lib.hid HVN.out.1
                              have HVX : Hid (∀ z ∈ V, z.1.ls.length ≤ n) := Lib.hid HVN.out.2
                              have HRW : Hid (OwnG hkK RunkT wo wm.heap.size (.slice ar V1 cr) V) := Lib.hid (by have h1 := HRKo.out.row; rw [HV1.out] at h1; exact h1)
                              have W5 : IntKind.i64.wrap ((N1 : Int) - 1) = (V1 : Int) := by rw [IntWalk.i64_in _ (by have h1 := HVN.out.1; have h2 := HV1.out; omega)]; omega
                              have hk0 : (0 : Int) ≤ (V1 : Int) := by omega
                              have hkN : (V1 : Int) < (N1 : Int) := by omega
                              have hN0 : (0 : Int) < (N1 : Int) := by omega
                              have HPE : Hid (∀ v' : Value, (V ++ [((⟨i, j, [] ++ [32 :: x]⟩ : HkV), v')]).map (·.1) = putF (V.map (·.1)) false i j (32 :: x)) := Lib.hid (fun v' => put_new_eq V v' i j (32 :: x))
                              have HMW : Hid (∀ W, Below wm.heap.size wm W → W.cell? ⟨b13, o13 + n, none⟩ = some (.int .u8 1)) := Lib.hid (fun W hW => HMC.out W hW)
                              clear hN1 hx hY hft hgo hnear f3 u1 u2 u3 f1 v1 v2 v3 f2
                              go_wp2_with (at_builtin; go_loud (refine appG_told hkK Tryd.underlying26 infoRk rfl rfl _ _ rfl wm.heap.size _ V rfl (HRW.out.alloc _) (some ⟨wo.heap.size, 0, none⟩) 1 1 [((⟨i, j, []⟩ : HkV), Value.slice none 0 0)] rfl (oneG wo ((⟨i, j, []⟩ : HkV), Value.slice none 0 0) rfl RunkT _ rfl) (by have h1 := HVE.out; have h2 := HNL.out; have h3 := HN.out.2; omega) (by have := HBWo.out.size; simp; omega) N1 (by rw [← HN1.out, HV1.out]) ?_); intro a2 cr2 wq ho hg ht; have hX2 := (HRKo.out.below ((Below.refl _ _).alloc (Nat.le_refl _) _)).more ⟨i, j, []⟩ rfl (by rw [HV1.out, HN1.out]; exact ho) (by rw [HV1.out]; exact hg) (by rw [HV1.out, HN1.out]; exact ht); have hB2 := (HBWo.out.alloc HBWo.out.size _).grown hg (by have := HBWo.out.size; simp; omega) (fun k h => (HRW.out.lt k h).1); obtain ⟨g, rfl, _, _, _⟩ := ho.row (by have := HN1.out; omega); have HXd := Lib.hid (hX2.below (Below.refl _ _).drew); have HBd := Lib.hid hB2.drew; have k13 := HMW.out wq hB2; clear ho hg ht hX2 hB2)
                              refine wp_region_held_drew (S := fun W => W.cell? ⟨bx, ox + i, none⟩ = some (.string (strB x))) (by kernel_rfl) (HSX.out _ HBd.out) (fun hHeld => ?_)
                              generalize wq.drew = wd at HXd HBd hHeld ⊢
                              refine wpAnyH_take (i := 0) (oi := ⟨some 132, .move (.tmp 15), _, _, _, _⟩) (v := (.slice (some ⟨g, 0, none⟩) N1 cr2)) rfl (by kernel_rfl) (by kernel_rfl) (by kernel_rfl) (fun _ _ _ h => h) (Or.inl ⟨by rfl, fun W hW => by go_simp⟩) (by assumption) ?_
                              simp only [Act.put, List.setIfInBounds_toArray, List.set_cons_zero, List.set_cons_succ]
                              refine wpAnyH_take (i := 1) (oi := ⟨some 133, .move (.tmp 22), _, _, _, _⟩) (v := (.int .i64 (V1 : Nat))) rfl (by kernel_rfl) (by kernel_rfl) (by kernel_rfl) (fun _ _ _ h => h) (Or.inl ⟨by rfl, fun W hW => by go_simp⟩) (by assumption) ?_
                              simp only [Act.put, List.setIfInBounds_toArray, List.set_cons_zero, List.set_cons_succ]
                              refine wpAnyH_take (i := 2) (oi := ⟨some 134, .move (.tmp 15), _, _, _, _⟩) (v := (.slice (some ⟨g, 0, none⟩) N1 cr2)) rfl (by kernel_rfl) (by kernel_rfl) (by kernel_rfl) (fun _ _ _ h => h) (Or.inl ⟨by rfl, fun W hW => by go_simp⟩) (by assumption) ?_
                              simp only [Act.put, List.setIfInBounds_toArray, List.set_cons_zero, List.set_cons_succ]
                              refine wpAnyH_take (i := 3) (oi := ⟨some 135, .move (.tmp 22), _, _, _, _⟩) (v := (.int .i64 (V1 : Nat))) rfl (by kernel_rfl) (by kernel_rfl) (by kernel_rfl) (fun _ _ _ h => h) (Or.inl ⟨by rfl, fun W hW => by go_simp⟩) (by assumption) ?_
                              simp only [Act.put, List.setIfInBounds_toArray, List.set_cons_zero, List.set_cons_succ]
                              refine wpAnyH_take (i := 4) (oi := ⟨some 136, .indexAddr 26 (.tmp 134) (.tmp 135), _, _, _, _⟩) (v := (.pointer (some ⟨g, 0 + V1 * 3, none⟩))) rfl (by kernel_rfl) (by kernel_rfl) (by kernel_rfl) (fun _ _ _ h => h) (Or.inl ⟨by rfl, fun W hW => by go_simp⟩) (by assumption) ?_
                              simp only [Act.put, List.setIfInBounds_toArray, List.set_cons_zero, List.set_cons_succ]
                              refine wpAnyH_take (i := 5) (oi := ⟨some 137, .fieldAddr 55 (.tmp 136) 2, _, _, _, _⟩) (v := (.pointer (some ⟨g, 0 + V1 * 3 + 2, none⟩))) rfl (by kernel_rfl) (by kernel_rfl) (by kernel_rfl) (fun _ _ _ h => h) (Or.inl ⟨by rfl, fun W hW => by go_simp⟩) (by assumption) ?_
                              simp only [Act.put, List.setIfInBounds_toArray, List.set_cons_zero, List.set_cons_succ]
                              refine wpAnyH_take (i := 7) (oi := ⟨some 139, .move (.tmp 6), _, _, _, _⟩) (v := (.slice (some ⟨bx, ox, none⟩) n6 c6)) rfl (by kernel_rfl) (by kernel_rfl) (by kernel_rfl) (fun _ _ _ h => h) (Or.inl ⟨by rfl, fun W hW => by go_simp⟩) (by assumption) ?_
                              simp only [Act.put, List.setIfInBounds_toArray, List.set_cons_zero, List.set_cons_succ]
                              refine wpAnyH_take (i := 8) (oi := ⟨some 140, .move (.tmp 16), _, _, _, _⟩) (v := (.int .i64 (i : Nat))) rfl (by kernel_rfl) (by kernel_rfl) (by kernel_rfl) (fun _ _ _ h => h) (Or.inl ⟨by rfl, fun W hW => by go_simp⟩) (by assumption) ?_
                              simp only [Act.put, List.setIfInBounds_toArray, List.set_cons_zero, List.set_cons_succ]
                              refine wpAnyH_take (i := 9) (oi := ⟨some 141, .indexAddr 32 (.tmp 139) (.tmp 140), _, _, _, _⟩) (v := (.pointer (some ⟨bx, ox + i, none⟩))) rfl (by kernel_rfl) (by kernel_rfl) (by kernel_rfl) (fun _ _ _ h => h) (Or.inl ⟨by rfl, fun W hW => by go_simp⟩) (by assumption) ?_
                              simp only [Act.put, List.setIfInBounds_toArray, List.set_cons_zero, List.set_cons_succ]
                              refine wpAnyH_take (i := 10) (oi := ⟨some 142, .load 9 (.tmp 141), _, _, _, _⟩) (v := (.string (strB x))) rfl (by kernel_rfl) (by kernel_rfl) (by kernel_rfl) (fun _ _ _ h => h) (Or.inl ⟨by rfl, fun W hW => by have hcell := hW; go_simp⟩) (by assumption) ?_
                              simp only [Act.put, List.setIfInBounds_toArray, List.set_cons_zero, List.set_cons_succ]
                              refine wpAnyH_take (i := 11) (oi := ⟨some 143, .binOp .add 9 (.const (.string ⟨#[32]⟩)) (.tmp 142) 9, _, _, _, _⟩) (v := (.string Y)) rfl (by kernel_rfl) (by kernel_rfl) (by kernel_rfl) (fun _ _ _ h => h) (Or.inl ⟨by rfl, fun W hW => by have hq := DC.out W; go_simp⟩) (by assumption) ?_
                              simp only [Act.put, List.setIfInBounds_toArray, List.set_cons_zero, List.set_cons_succ]
                              refine wpAnyH_ready (rs := [6, 12]) (by kernel_rfl) (by simp) ?_
                              refine AllReadyH.cons (o := ⟨some 138, .load 32 (.tmp 137), _, _, _, _⟩) rfl (fun K hK => ?_) (AllReadyH.cons (o := ⟨some 144, .buildSlice 32 1 #[(0, (.tmp 143))], _, _, _, _⟩) rfl (fun K hK => ?_) AllReadyH.nil)
                              · have k1 := HXd.out.slot0
                                rw [HKV.out] at k1
                                refine wreadyH ?_
                                go_simp
                                clear k1
                                refine hK.out _ _ hHeld (fun hHeld => ?_)
                                clear hK K
                                refine wpAnyH_ready (rs := [12]) (by kernel_rfl) (by simp) ?_
                                refine AllReadyH.cons (o := ⟨some 144, .buildSlice 32 1 #[(0, (.tmp 143))], _, _, _, _⟩) rfl (fun K hK => ?_) AllReadyH.nil
                                refine wreadyH ?_
                                go_simp
                                obtain ⟨we, hwe⟩ : ∃ W, wd.alloc (.cells #[.string Y] 9) = W := ⟨_, rfl⟩
                                have HSe : Hid (AtG lnK we (some ⟨wd.heap.size, 0, none⟩) 1 1 [32 :: x]) := Lib.hid (hwe ▸ oneG wd (32 :: x) trivial 9 _ HCS.out)
                                have hbe : Below wd.heap.size wd we := hwe ▸ (Below.refl _ _).alloc (Nat.le_refl _) _
                                have HXe := Lib.hid (HXd.out.below hbe)
                                have HBe := Lib.hid (HBd.out.trans (hbe.mono HBd.out.size))
                                clear hbe
                                rw [hwe]
                                clear hwe
                                refine hK.out _ _ (HSX.out _ HBe.out) (fun hHeld => ?_)
                                clear hK K
                                refine wpAnyH_ready (rs := [13]) (by kernel_rfl) (by simp) ?_
                                refine AllReadyH.cons (o := ⟨some 145, .call { callee := .builtin .append, args := #[(.tmp 138), (.tmp 144)], argTypes := #[32, 32] }, _, _, _, _⟩) rfl (fun K hK => ?_) AllReadyH.nil
                                refine wreadyH (wp_appG_told lnK Tryd.underlying32 infoStH rfl (.tmp 138) (.tmp 144) rfl wm.heap.size (.slice none 0 0) ([] : List Ln) rfl (HXe.out.ln (x := (⟨i, j, []⟩, .slice none 0 0)) (by simp)) _ 1 1 [32 :: x] rfl HSe.out (by simp) HBe.out.size 1 rfl ?_)
                                intro a6 c6 w6 ho hg ht
                                obtain ⟨z1, z2, z3⟩ := HXe.out.slot ho hg ht
                                have hL7 := HXe.out.line ho rfl hg ht
                                rw [HKV.out] at z1 z2 hL7
                                have HB6 := Lib.hid (HBe.out.grown hg HBe.out.size (fun k h => ((HXe.out.ln (x := (⟨i, j, []⟩, .slice none 0 0)) (by simp)).lt k h).1))
                                have HZ3 := Lib.hid z3
                                have HL7 := Lib.hid hL7
                                clear ho hg ht hL7 z3
                                refine hK.out _ _ (HSX.out _ HB6.out) (fun hHeld => ?_)
                                clear hK K
                                refine wpAnyH_take (i := 14) (oi := ⟨some 146, .indexAddr 26 (.tmp 132) (.tmp 133), _, _, _, _⟩) (v := (.pointer (some ⟨g, 0 + V1 * 3, none⟩))) rfl (by kernel_rfl) (by kernel_rfl) (by kernel_rfl) (fun _ _ _ h => h) (Or.inl ⟨by rfl, fun W hW => by go_simp⟩) (by assumption) ?_
                                simp only [Act.put, List.setIfInBounds_toArray, List.set_cons_zero, List.set_cons_succ]
                                refine wpAnyH_take (i := 15) (oi := ⟨some 147, .fieldAddr 55 (.tmp 146) 2, _, _, _, _⟩) (v := (.pointer (some ⟨g, 0 + V1 * 3 + 2, none⟩))) rfl (by kernel_rfl) (by kernel_rfl) (by kernel_rfl) (fun _ _ _ h => h) (Or.inl ⟨by rfl, fun W hW => by go_simp⟩) (by assumption) ?_
                                simp only [Act.put, List.setIfInBounds_toArray, List.set_cons_zero, List.set_cons_succ]
                                refine wpAnyH_ready (rs := [16]) (by kernel_rfl) (by simp) ?_
                                refine AllReadyH.cons (o := ⟨none, .store 32 (.tmp 147) (.tmp 145), _, _, _, _⟩) rfl (fun K hK => ?_) AllReadyH.nil
                                refine wreadyH ?_
                                go_simp
                                obtain ⟨w7, hw7⟩ : ∃ X, w6.setCell ⟨g, V1 * 3 + 2, none⟩ (.slice a6 1 c6) = X := ⟨_, rfl⟩
                                rw [hw7] at HL7
                                have HB7 : Hid (Below wm.heap.size wm w7) := Lib.hid (hw7 ▸ HB6.out.setCell (p := ⟨g, V1 * 3 + 2, none⟩) HZ3.out _)
                                rw [hw7]
                                clear hw7 z1 z2
                                refine hK.out _ _ (HSX.out _ HB7.out) (fun hHeld => ?_)
                                clear hK K
                                refine wpAnyH_done (by kernel_rfl) ?_ _
                                clear hHeld
                                have k14 := HMC.out w7 HB7.out
                                go_wp2
                                go_roundg (N - (n + 1))
                                case measure => have h1 := HI.out; have h2 := HNL.out; omega
                                case rel => exact ⟨n + 1, i + 1, j + 1, true, V ++ [((⟨i, j, [] ++ [32 :: x]⟩ : HkV), Value.slice a6 1 c6)], some ⟨g, 0, none⟩, cr2, by go_num, by go_num, by go_num, rfl, by rw [len_snoc, HKV.out, HN1.out], Lib.hid (by have h1 := HI.out; have h2 := HNL.out; omega), HL7, Lib.hid (fun _ => by simp), Lib.hid (by rw [HPE.out]; exact HG2.out), HF2, Lib.hid (by have := HIJ.out; omega), Lib.hid ⟨by rw [len_snoc]; have := HVE.out; omega, fun z hz => by rcases List.mem_append.1 hz with hz | hz; exact Nat.le_succ_of_le (HVX.out z hz); rw [List.mem_singleton.1 hz]; show List.length (_ ++ _) ≤ _; rw [List.length_append]; simp only [List.length_cons, List.length_nil]; omega⟩, HB7⟩
                              · refine wreadyH ?_
                                go_simp
                                obtain ⟨we, hwe⟩ : ∃ W, wd.alloc (.cells #[.string Y] 9) = W := ⟨_, rfl⟩
                                have HSe : Hid (AtG lnK we (some ⟨wd.heap.size, 0, none⟩) 1 1 [32 :: x]) := Lib.hid (hwe ▸ oneG wd (32 :: x) trivial 9 _ HCS.out)
                                have hbe : Below wd.heap.size wd we := hwe ▸ (Below.refl _ _).alloc (Nat.le_refl _) _
                                have HXe := Lib.hid (HXd.out.below hbe)
                                have HBe := Lib.hid (HBd.out.trans (hbe.mono HBd.out.size))
                                clear hbe
                                rw [hwe]
                                clear hwe
                                refine hK.out _ _ (HSX.out _ HBe.out) (fun hHeld => ?_)
                                clear hK K
                                refine wpAnyH_ready (rs := [6]) (by kernel_rfl) (by simp) ?_
                                refine AllReadyH.cons (o := ⟨some 138, .load 32 (.tmp 137), _, _, _, _⟩) rfl (fun K hK => ?_) AllReadyH.nil
                                have k1 := HXe.out.slot0
                                rw [HKV.out] at k1
                                refine wreadyH ?_
                                go_simp
                                clear k1
                                refine hK.out _ _ hHeld (fun hHeld => ?_)
                                clear hK K
                                refine wpAnyH_ready (rs := [13]) (by kernel_rfl) (by simp) ?_
                                refine AllReadyH.cons (o := ⟨some 145, .call { callee := .builtin .append, args := #[(.tmp 138), (.tmp 144)], argTypes := #[32, 32] }, _, _, _, _⟩) rfl (fun K hK => ?_) AllReadyH.nil
                                refine wreadyH (wp_appG_told lnK Tryd.underlying32 infoStH rfl (.tmp 138) (.tmp 144) rfl wm.heap.size (.slice none 0 0) ([] : List Ln) rfl (HXe.out.ln (x := (⟨i, j, []⟩, .slice none 0 0)) (by simp)) _ 1 1 [32 :: x] rfl HSe.out (by simp) HBe.out.size 1 rfl ?_)
                                intro a6 c6 w6 ho hg ht
                                obtain ⟨z1, z2, z3⟩ := HXe.out.slot ho hg ht
                                have hL7 := HXe.out.line ho rfl hg ht
                                rw [HKV.out] at z1 z2 hL7
                                have HB6 := Lib.hid (HBe.out.grown hg HBe.out.size (fun k h => ((HXe.out.ln (x := (⟨i, j, []⟩, .slice none 0 0)) (by simp)).lt k h).1))
                                have HZ3 := Lib.hid z3
                                have HL7 := Lib.hid hL7
                                clear ho hg ht hL7 z3
                                refine hK.out _ _ (HSX.out _ HB6.out) (fun hHeld => ?_)
                                clear hK K
                                refine wpAnyH_take (i := 14) (oi := ⟨some 146, .indexAddr 26 (.tmp 132) (.tmp 133), _, _, _, _⟩) (v := (.pointer (some ⟨g, 0 + V1 * 3, none⟩))) rfl (by kernel_rfl) (by kernel_rfl) (by kernel_rfl) (fun _ _ _ h => h) (Or.inl ⟨by rfl, fun W hW => by go_simp⟩) (by assumption) ?_
                                simp only [Act.put, List.setIfInBounds_toArray, List.set_cons_zero, List.set_cons_succ]
                                refine wpAnyH_take (i := 15) (oi := ⟨some 147, .fieldAddr 55 (.tmp 146) 2, _, _, _, _⟩) (v := (.pointer (some ⟨g, 0 + V1 * 3 + 2, none⟩))) rfl (by kernel_rfl) (by kernel_rfl) (by kernel_rfl) (fun _ _ _ h => h) (Or.inl ⟨by rfl, fun W hW => by go_simp⟩) (by assumption) ?_
                                simp only [Act.put, List.setIfInBounds_toArray, List.set_cons_zero, List.set_cons_succ]
                                refine wpAnyH_ready (rs := [16]) (by kernel_rfl) (by simp) ?_
                                refine AllReadyH.cons (o := ⟨none, .store 32 (.tmp 147) (.tmp 145), _, _, _, _⟩) rfl (fun K hK => ?_) AllReadyH.nil
                                refine wreadyH ?_
                                go_simp
                                obtain ⟨w7, hw7⟩ : ∃ X, w6.setCell ⟨g, V1 * 3 + 2, none⟩ (.slice a6 1 c6) = X := ⟨_, rfl⟩
                                rw [hw7] at HL7
                                have HB7 : Hid (Below wm.heap.size wm w7) := Lib.hid (hw7 ▸ HB6.out.setCell (p := ⟨g, V1 * 3 + 2, none⟩) HZ3.out _)
                                rw [hw7]
                                clear hw7 z1 z2
                                refine hK.out _ _ (HSX.out _ HB7.out) (fun hHeld => ?_)
                                clear hK K
                                refine wpAnyH_done (by kernel_rfl) ?_ _
                                clear hHeld
                                have k14 := HMC.out w7 HB7.out
                                go_wp2
                                go_roundg (N - (n + 1))
                                case measure => have h1 := HI.out; have h2 := HNL.out; omega
                                case rel => exact ⟨n + 1, i + 1, j + 1, true, V ++ [((⟨i, j, [] ++ [32 :: x]⟩ : HkV), Value.slice a6 1 c6)], some ⟨g, 0, none⟩, cr2, by go_num, by go_num, by go_num, rfl, by rw [len_snoc, HKV.out, HN1.out], Lib.hid (by have h1 := HI.out; have h2 := HNL.out; omega), HL7, Lib.hid (fun _ => by simp), Lib.hid (by rw [HPE.out]; exact HG2.out), HF2, Lib.hid (by have := HIJ.out; omega), Lib.hid ⟨by rw [len_snoc]; have := HVE.out; omega, fun z hz => by rcases List.mem_append.1 hz with hz | hz; exact Nat.le_succ_of_le (HVX.out z hz); rw [List.mem_singleton.1 hz]; show List.length (_ ++ _) ≤ _; rw [List.length_append]; simp only [List.length_cons, List.length_nil]; omega⟩, HB7⟩
                        · cases op with
                          | true =>
                            as_aux_lemma =>
                              obtain ⟨x0, ra, f1, f3⟩ := fit_two hft
                              obtain ⟨u1, u2, u3⟩ := drop_step ([] : Ln) f1
                              obtain ⟨bx, ox, rfl⟩ := HXM.out.some_ (by have := HNN.out; omega)
                              obtain ⟨x, hx⟩ : ∃ x, A.getD i [] = x := ⟨_, rfl⟩
                              have HSX : Hid (∀ W, Below wm.heap.size wm W → W.cell? ⟨bx, ox + i, none⟩ = some (.string (strB x))) := Lib.hid (fun W hW => by have h1 := ln_cell (HXM.out.below hW) i (by have := HNN.out; omega); rw [hx] at h1; exact h1)
                              have HXL : Hid (x.length ≤ 1000) := Lib.hid (HAL.out.1 x (by rw [← hx]; exact getD_mem u2))
                              have hib : i < n6 := by have := HNN.out; omega
                              have hibI : (i : Int) < (n6 : Int) := by omega
                              have hibn : ¬ n6 ≤ i := by omega
                              obtain ⟨Y, hY⟩ : ∃ Y, strB (45 :: x) = Y := ⟨_, rfl⟩
                              have DC : Hid (∀ W, (Op.stringOp .add ⟨#[45]⟩ (strB x)).run Tryd.prog W = .ok (.string Y) W) := Lib.hid (fun W => by rw [← hY]; exact run_catL [45] x (by have := HXL.out; simp only [List.length_cons, List.length_nil]; omega) W)
                              have HCS : Hid (#[Value.string Y] = (lnK.cells (45 :: x)).toArray) := Lib.hid (by rw [← hY]; rfl)
                              have HF2 : Hid (Fit (ms.drop (n + 1)) (A.drop (i + 1)) (B.drop (j))) := Lib.hid (by rw [u1]; exact f3)
                              have HG2 : Hid (hkGo ms A B (ms.drop (n + 1)) (n + 1) (i + 1) (j) true (putF (V.map (·.1)) true i j (45 :: x)) = Z) := Lib.hid (by have h1 := hgo; rw [go_cons, if_pos hnear, if_neg (by decide), if_pos rfl] at h1; rw [← hx]; exact h1)
                              obtain ⟨V0, ⟨⟨f, t, ls⟩, v⟩, rfl⟩ : ∃ V0 z, V = V0 ++ [z] := ⟨V.dropLast, V.getLast (HOP.out rfl), (List.dropLast_concat_getLast (HOP.out rfl)).symm⟩
                              obtain ⟨k, hk⟩ : ∃ k, V0.length = k := ⟨_, rfl⟩
                              have HKV := Lib.hid hk
                              have hv1 := HV1.out
                              rw [len_snoc, hk] at hv1
                              subst hv1
                              have hrow := HRKo.out.row
                              obtain ⟨g, rfl, _, _, _⟩ := hrow.row (by simp)
                              obtain ⟨av, cv, hav, hat⟩ := (HRKo.out.ln (x := (⟨f, t, ls⟩, v)) (by simp)).atG_
                              obtain rfl : v = .slice av ls.length cv := hav
                              obtain ⟨m, hm2⟩ : ∃ m, ls.length = m := ⟨_, rfl⟩
                              have HLS : Hid (ls.length = m ∧ m ≤ 2000) := Lib.hid ⟨hm2, by have h1 := HVN.out.2 (⟨f, t, ls⟩, .slice av ls.length cv) (by simp); simp only at h1; omega⟩
                              obtain ⟨N1, hN1⟩ : ∃ N1, k + 1 = N1 := ⟨_, rfl⟩
                              have HN1 := Lib.hid hN1
                              have HXo := HRKo
                              rw [hm2] at HXo
                              have HXd := Lib.hid (HXo.out.below (Below.refl _ _).drew)
                              have HBd := Lib.hid HBWo.out.drew
                              have W5 : IntKind.i64.wrap ((N1 : Int) - 1) = (k : Int) := by rw [IntWalk.i64_in _ (by have h1 := HVN.out.1; rw [len_snoc] at h1; omega)]; omega
                              have hk0 : (0 : Int) ≤ (k : Int) := by omega
                              have hkN : (k : Int) < (N1 : Int) := by omega
                              have hN0 : (0 : Int) < (N1 : Int) := by omega
                              have HVE : Hid (V0.length + 1 ≤ n) := Lib.hid (by have h1 := HVN.out.1; rw [len_snoc] at h1; exact h1)
                              have HVX : Hid (∀ z ∈ V0, z.1.ls.length ≤ n) := Lib.hid (fun z hz => HVN.out.2 z (List.mem_append_left _ hz))
                              have HMS : Hid (m ≤ n) := Lib.hid (by have h1 := HVN.out.2 (⟨f, t, ls⟩, .slice av ls.length cv) (by simp); simp only at h1; omega)
                              have HPE : Hid (∀ v' : Value, (V0 ++ [((⟨f, t, ls ++ [45 :: x]⟩ : HkV), v')]).map (·.1) = putF ((V0 ++ [((⟨f, t, ls⟩ : HkV), Value.slice av ls.length cv)]).map (·.1)) true i j (45 :: x)) := Lib.hid (fun v' => put_on_eq V0 ⟨f, t, ls⟩ _ v' i j (45 :: x))
                              rw [hN1]
                              clear hk hm2 hN1 hat hrow hx hY hft hgo hnear f3 u1 u2 u3 f1
                              go_wp2_with fail
                              refine wp_region_held_drew (S := fun W => W.cell? ⟨bx, ox + i, none⟩ = some (.string (strB x))) (by kernel_rfl) (HSX.out _ HBd.out) (fun hHeld => ?_)
                              generalize wo.drew = wd at HXd HBd hHeld ⊢
                              refine wpAnyH_take (i := 0) (oi := ⟨some 157, .move (.tmp 15), _, _, _, _⟩) (v := (.slice (some ⟨g, 0, none⟩) N1 cr)) rfl (by kernel_rfl) (by kernel_rfl) (by kernel_rfl) (fun _ _ _ h => h) (Or.inl ⟨by rfl, fun W hW => by go_simp⟩) (by assumption) ?_
                              simp only [Act.put, List.setIfInBounds_toArray, List.set_cons_zero, List.set_cons_succ]
                              refine wpAnyH_take (i := 1) (oi := ⟨some 158, .move (.tmp 22), _, _, _, _⟩) (v := (.int .i64 (k : Nat))) rfl (by kernel_rfl) (by kernel_rfl) (by kernel_rfl) (fun _ _ _ h => h) (Or.inl ⟨by rfl, fun W hW => by go_simp⟩) (by assumption) ?_
                              simp only [Act.put, List.setIfInBounds_toArray, List.set_cons_zero, List.set_cons_succ]
                              refine wpAnyH_take (i := 2) (oi := ⟨some 159, .move (.tmp 15), _, _, _, _⟩) (v := (.slice (some ⟨g, 0, none⟩) N1 cr)) rfl (by kernel_rfl) (by kernel_rfl) (by kernel_rfl) (fun _ _ _ h => h) (Or.inl ⟨by rfl, fun W hW => by go_simp⟩) (by assumption) ?_
                              simp only [Act.put, List.setIfInBounds_toArray, List.set_cons_zero, List.set_cons_succ]
                              refine wpAnyH_take (i := 3) (oi := ⟨some 160, .move (.tmp 22), _, _, _, _⟩) (v := (.int .i64 (k : Nat))) rfl (by kernel_rfl) (by kernel_rfl) (by kernel_rfl) (fun _ _ _ h => h) (Or.inl ⟨by rfl, fun W hW => by go_simp⟩) (by assumption) ?_
                              simp only [Act.put, List.setIfInBounds_toArray, List.set_cons_zero, List.set_cons_succ]
                              refine wpAnyH_take (i := 4) (oi := ⟨some 161, .indexAddr 26 (.tmp 159) (.tmp 160), _, _, _, _⟩) (v := (.pointer (some ⟨g, 0 + k * 3, none⟩))) rfl (by kernel_rfl) (by kernel_rfl) (by kernel_rfl) (fun _ _ _ h => h) (Or.inl ⟨by rfl, fun W hW => by go_simp⟩) (by assumption) ?_
                              simp only [Act.put, List.setIfInBounds_toArray, List.set_cons_zero, List.set_cons_succ]
                              refine wpAnyH_take (i := 5) (oi := ⟨some 162, .fieldAddr 55 (.tmp 161) 2, _, _, _, _⟩) (v := (.pointer (some ⟨g, 0 + k * 3 + 2, none⟩))) rfl (by kernel_rfl) (by kernel_rfl) (by kernel_rfl) (fun _ _ _ h => h) (Or.inl ⟨by rfl, fun W hW => by go_simp⟩) (by assumption) ?_
                              simp only [Act.put, List.setIfInBounds_toArray, List.set_cons_zero, List.set_cons_succ]
                              refine wpAnyH_take (i := 7) (oi := ⟨some 164, .move (.tmp 6), _, _, _, _⟩) (v := (.slice (some ⟨bx, ox, none⟩) n6 c6)) rfl (by kernel_rfl) (by kernel_rfl) (by kernel_rfl) (fun _ _ _ h => h) (Or.inl ⟨by rfl, fun W hW => by go_simp⟩) (by assumption) ?_
                              simp only [Act.put, List.setIfInBounds_toArray, List.set_cons_zero, List.set_cons_succ]
                              refine wpAnyH_take (i := 8) (oi := ⟨some 165, .move (.tmp 16), _, _, _, _⟩) (v := (.int .i64 (i : Nat))) rfl (by kernel_rfl) (by kernel_rfl) (by kernel_rfl) (fun _ _ _ h => h) (Or.inl ⟨by rfl, fun W hW => by go_simp⟩) (by assumption) ?_
                              simp only [Act.put, List.setIfInBounds_toArray, List.set_cons_zero, List.set_cons_succ]
                              refine wpAnyH_take (i := 9) (oi := ⟨some 166, .indexAddr 32 (.tmp 164) (.tmp 165), _, _, _, _⟩) (v := (.pointer (some ⟨bx, ox + i, none⟩))) rfl (by kernel_rfl) (by kernel_rfl) (by kernel_rfl) (fun _ _ _ h => h) (Or.inl ⟨by rfl, fun W hW => by go_simp⟩) (by assumption) ?_
                              simp only [Act.put, List.setIfInBounds_toArray, List.set_cons_zero, List.set_cons_succ]
                              refine wpAnyH_take (i := 10) (oi := ⟨some 167, .load 9 (.tmp 166), _, _, _, _⟩) (v := (.string (strB x))) rfl (by kernel_rfl) (by kernel_rfl) (by kernel_rfl) (fun _ _ _ h => h) (Or.inl ⟨by rfl, fun W hW => by have hcell := hW; go_simp⟩) (by assumption) ?_
                              simp only [Act.put, List.setIfInBounds_toArray, List.set_cons_zero, List.set_cons_succ]
                              refine wpAnyH_take (i := 11) (oi := ⟨some 168, .binOp .add 9 (.const (.string ⟨#[45]⟩)) (.tmp 167) 9, _, _, _, _⟩) (v := (.string Y)) rfl (by kernel_rfl) (by kernel_rfl) (by kernel_rfl) (fun _ _ _ h => h) (Or.inl ⟨by rfl, fun W hW => by have hq := DC.out W; go_simp⟩) (by assumption) ?_
                              simp only [Act.put, List.setIfInBounds_toArray, List.set_cons_zero, List.set_cons_succ]
                              refine wpAnyH_ready (rs := [6, 12]) (by kernel_rfl) (by simp) ?_
                              refine AllReadyH.cons (o := ⟨some 163, .load 32 (.tmp 162), _, _, _, _⟩) rfl (fun K hK => ?_) (AllReadyH.cons (o := ⟨some 169, .buildSlice 32 1 #[(0, (.tmp 168))], _, _, _, _⟩) rfl (fun K hK => ?_) AllReadyH.nil)
                              · have k1 := HXd.out.slot0
                                rw [HKV.out] at k1
                                refine wreadyH ?_
                                go_simp
                                clear k1
                                refine hK.out _ _ hHeld (fun hHeld => ?_)
                                clear hK K
                                refine wpAnyH_ready (rs := [12]) (by kernel_rfl) (by simp) ?_
                                refine AllReadyH.cons (o := ⟨some 169, .buildSlice 32 1 #[(0, (.tmp 168))], _, _, _, _⟩) rfl (fun K hK => ?_) AllReadyH.nil
                                refine wreadyH ?_
                                go_simp
                                obtain ⟨we, hwe⟩ : ∃ W, wd.alloc (.cells #[.string Y] 9) = W := ⟨_, rfl⟩
                                have HSe : Hid (AtG lnK we (some ⟨wd.heap.size, 0, none⟩) 1 1 [45 :: x]) := Lib.hid (hwe ▸ oneG wd (45 :: x) trivial 9 _ HCS.out)
                                have hbe : Below wd.heap.size wd we := hwe ▸ (Below.refl _ _).alloc (Nat.le_refl _) _
                                have HXe := Lib.hid (HXd.out.below hbe)
                                have HBe := Lib.hid (HBd.out.trans (hbe.mono HBd.out.size))
                                clear hbe
                                rw [hwe]
                                clear hwe
                                refine hK.out _ _ (HSX.out _ HBe.out) (fun hHeld => ?_)
                                clear hK K
                                refine wpAnyH_ready (rs := [13]) (by kernel_rfl) (by simp) ?_
                                refine AllReadyH.cons (o := ⟨some 170, .call { callee := .builtin .append, args := #[(.tmp 163), (.tmp 169)], argTypes := #[32, 32] }, _, _, _, _⟩) rfl (fun K hK => ?_) AllReadyH.nil
                                refine wreadyH (wp_appG_told lnK Tryd.underlying32 infoStH rfl (.tmp 163) (.tmp 169) rfl wm.heap.size (.slice av m cv) ls rfl (HXe.out.ln (x := (⟨f, t, ls⟩, .slice av m cv)) (by simp)) _ 1 1 [45 :: x] rfl HSe.out (by have := HLS.out; omega) HBe.out.size (m + 1) (by rw [HLS.out.1]) ?_)
                                intro a6 c6 w6 ho hg ht
                                obtain ⟨z1, z2, z3⟩ := HXe.out.slot ho hg ht
                                have hL7 := HXe.out.line ho rfl hg ht
                                rw [HKV.out] at z1 z2 hL7
                                have HB6 := Lib.hid (HBe.out.grown hg HBe.out.size (fun k h => ((HXe.out.ln (x := (⟨f, t, ls⟩, .slice av m cv)) (by simp)).lt k h).1))
                                have HZ3 := Lib.hid z3
                                have HL7 := Lib.hid hL7
                                clear ho hg ht hL7 z3
                                refine hK.out _ _ (HSX.out _ HB6.out) (fun hHeld => ?_)
                                clear hK K
                                refine wpAnyH_take (i := 14) (oi := ⟨some 171, .indexAddr 26 (.tmp 157) (.tmp 158), _, _, _, _⟩) (v := (.pointer (some ⟨g, 0 + k * 3, none⟩))) rfl (by kernel_rfl) (by kernel_rfl) (by kernel_rfl) (fun _ _ _ h => h) (Or.inl ⟨by rfl, fun W hW => by go_simp⟩) (by assumption) ?_
                                simp only [Act.put, List.setIfInBounds_toArray, List.set_cons_zero, List.set_cons_succ]
                                refine wpAnyH_take (i := 15) (oi := ⟨some 172, .fieldAddr 55 (.tmp 171) 2, _, _, _, _⟩) (v := (.pointer (some ⟨g, 0 + k * 3 + 2, none⟩))) rfl (by kernel_rfl) (by kernel_rfl) (by kernel_rfl) (fun _ _ _ h => h) (Or.inl ⟨by rfl, fun W hW => by go_simp⟩) (by assumption) ?_
                                simp only [Act.put, List.setIfInBounds_toArray, List.set_cons_zero, List.set_cons_succ]
                                refine wpAnyH_ready (rs := [16]) (by kernel_rfl) (by simp) ?_
                                refine AllReadyH.cons (o := ⟨none, .store 32 (.tmp 172) (.tmp 170), _, _, _, _⟩) rfl (fun K hK => ?_) AllReadyH.nil
                                refine wreadyH ?_
                                go_simp
                                obtain ⟨w7, hw7⟩ : ∃ X, w6.setCell ⟨g, k * 3 + 2, none⟩ (.slice a6 (m + 1) c6) = X := ⟨_, rfl⟩
                                rw [hw7] at HL7
                                have HB7 : Hid (Below wm.heap.size wm w7) := Lib.hid (hw7 ▸ HB6.out.setCell (p := ⟨g, k * 3 + 2, none⟩) HZ3.out _)
                                rw [hw7]
                                clear hw7 z1 z2
                                refine hK.out _ _ (HSX.out _ HB7.out) (fun hHeld => ?_)
                                clear hK K
                                refine wpAnyH_done (by kernel_rfl) ?_ _
                                clear hHeld
                                have k14 := HMC.out w7 HB7.out
                                go_wp2
                                go_roundg (N - (n + 1))
                                case measure => have h1 := HI.out; have h2 := HNL.out; omega
                                case rel => exact ⟨n + 1, i + 1, j, true, V0 ++ [((⟨f, t, ls ++ [45 :: x]⟩ : HkV), Value.slice a6 (m + 1) c6)], some ⟨g, 0, none⟩, cr, by go_num, by go_num, rfl, rfl, by rw [len_snoc, HKV.out, HN1.out], Lib.hid (by have h1 := HI.out; have h2 := HNL.out; omega), HL7, Lib.hid (fun _ => by simp), Lib.hid (by rw [HPE.out]; exact HG2.out), HF2, Lib.hid (by have := HIJ.out; omega), Lib.hid ⟨by rw [len_snoc]; have := HVE.out; omega, fun z hz => by rcases List.mem_append.1 hz with hz | hz; exact Nat.le_succ_of_le (HVX.out z hz); rw [List.mem_singleton.1 hz]; show List.length (_ ++ _) ≤ _; rw [List.length_append]; have := HLS.out; have := HMS.out; simp only [List.length_cons, List.length_nil]; omega⟩, HB7⟩
                              · refine wreadyH ?_
                                go_simp
                                obtain ⟨we, hwe⟩ : ∃ W, wd.alloc (.cells #[.string Y] 9) = W := ⟨_, rfl⟩
                                have HSe : Hid (AtG lnK we (some ⟨wd.heap.size, 0, none⟩) 1 1 [45 :: x]) := Lib.hid (hwe ▸ oneG wd (45 :: x) trivial 9 _ HCS.out)
                                have hbe : Below wd.heap.size wd we := hwe ▸ (Below.refl _ _).alloc (Nat.le_refl _) _
                                have HXe := Lib.hid (HXd.out.below hbe)
                                have HBe := Lib.hid (HBd.out.trans (hbe.mono HBd.out.size))
                                clear hbe
                                rw [hwe]
                                clear hwe
                                refine hK.out _ _ (HSX.out _ HBe.out) (fun hHeld => ?_)
                                clear hK K
                                refine wpAnyH_ready (rs := [6]) (by kernel_rfl) (by simp) ?_
                                refine AllReadyH.cons (o := ⟨some 163, .load 32 (.tmp 162), _, _, _, _⟩) rfl (fun K hK => ?_) AllReadyH.nil
                                have k1 := HXe.out.slot0
                                rw [HKV.out] at k1
                                refine wreadyH ?_
                                go_simp
                                clear k1
                                refine hK.out _ _ hHeld (fun hHeld => ?_)
                                clear hK K
                                refine wpAnyH_ready (rs := [13]) (by kernel_rfl) (by simp) ?_
                                refine AllReadyH.cons (o := ⟨some 170, .call { callee := .builtin .append, args := #[(.tmp 163), (.tmp 169)], argTypes := #[32, 32] }, _, _, _, _⟩) rfl (fun K hK => ?_) AllReadyH.nil
                                refine wreadyH (wp_appG_told lnK Tryd.underlying32 infoStH rfl (.tmp 163) (.tmp 169) rfl wm.heap.size (.slice av m cv) ls rfl (HXe.out.ln (x := (⟨f, t, ls⟩, .slice av m cv)) (by simp)) _ 1 1 [45 :: x] rfl HSe.out (by have := HLS.out; omega) HBe.out.size (m + 1) (by rw [HLS.out.1]) ?_)
                                intro a6 c6 w6 ho hg ht
                                obtain ⟨z1, z2, z3⟩ := HXe.out.slot ho hg ht
                                have hL7 := HXe.out.line ho rfl hg ht
                                rw [HKV.out] at z1 z2 hL7
                                have HB6 := Lib.hid (HBe.out.grown hg HBe.out.size (fun k h => ((HXe.out.ln (x := (⟨f, t, ls⟩, .slice av m cv)) (by simp)).lt k h).1))
                                have HZ3 := Lib.hid z3
                                have HL7 := Lib.hid hL7
                                clear ho hg ht hL7 z3
                                refine hK.out _ _ (HSX.out _ HB6.out) (fun hHeld => ?_)
                                clear hK K
                                refine wpAnyH_take (i := 14) (oi := ⟨some 171, .indexAddr 26 (.tmp 157) (.tmp 158), _, _, _, _⟩) (v := (.pointer (some ⟨g, 0 + k * 3, none⟩))) rfl (by kernel_rfl) (by kernel_rfl) (by kernel_rfl) (fun _ _ _ h => h) (Or.inl ⟨by rfl, fun W hW => by go_simp⟩) (by assumption) ?_
                                simp only [Act.put, List.setIfInBounds_toArray, List.set_cons_zero, List.set_cons_succ]
                                refine wpAnyH_take (i := 15) (oi := ⟨some 172, .fieldAddr 55 (.tmp 171) 2, _, _, _, _⟩) (v := (.pointer (some ⟨g, 0 + k * 3 + 2, none⟩))) rfl (by kernel_rfl) (by kernel_rfl) (by kernel_rfl) (fun _ _ _ h => h) (Or.inl ⟨by rfl, fun W hW => by go_simp⟩) (by assumption) ?_
                                simp only [Act.put, List.setIfInBounds_toArray, List.set_cons_zero, List.set_cons_succ]
                                refine wpAnyH_ready (rs := [16]) (by kernel_rfl) (by simp) ?_
                                refine AllReadyH.cons (o := ⟨none, .store 32 (.tmp 172) (.tmp 170), _, _, _, _⟩) rfl (fun K hK => ?_) AllReadyH.nil
                                refine wreadyH ?_
                                go_simp
                                obtain ⟨w7, hw7⟩ : ∃ X, w6.setCell ⟨g, k * 3 + 2, none⟩ (.slice a6 (m + 1) c6) = X := ⟨_, rfl⟩
                                rw [hw7] at HL7
                                have HB7 : Hid (Below wm.heap.size wm w7) := Lib.hid (hw7 ▸ HB6.out.setCell (p := ⟨g, k * 3 + 2, none⟩) HZ3.out _)
                                rw [hw7]
                                clear hw7 z1 z2
                                refine hK.out _ _ (HSX.out _ HB7.out) (fun hHeld => ?_)
                                clear hK K
                                refine wpAnyH_done (by kernel_rfl) ?_ _
                                clear hHeld
                                have k14 := HMC.out w7 HB7.out
                                go_wp2
                                go_roundg (N - (n + 1))
                                case measure => have h1 := HI.out; have h2 := HNL.out; omega
                                case rel => exact ⟨n + 1, i + 1, j, true, V0 ++ [((⟨f, t, ls ++ [45 :: x]⟩ : HkV), Value.slice a6 (m + 1) c6)], some ⟨g, 0, none⟩, cr, by go_num, by go_num, rfl, rfl, by rw [len_snoc, HKV.out, HN1.out], Lib.hid (by have h1 := HI.out; have h2 := HNL.out; omega), HL7, Lib.hid (fun _ => by simp), Lib.hid (by rw [HPE.out]; exact HG2.out), HF2, Lib.hid (by have := HIJ.out; omega), Lib.hid ⟨by rw [len_snoc]; have := HVE.out; omega, fun z hz => by rcases List.mem_append.1 hz with hz | hz; exact Nat.le_succ_of_le (HVX.out z hz); rw [List.mem_singleton.1 hz]; show List.length (_ ++ _) ≤ _; rw [List.length_append]; have := HLS.out; have := HMS.out; simp only [List.length_cons, List.length_nil]; omega⟩, HB7⟩
                          | false =>
                            as_aux_lemma =>
                              obtain ⟨x0, ra, f1, f3⟩ := fit_two hft
                              obtain ⟨u1, u2, u3⟩ := drop_step ([] : Ln) f1
                              obtain ⟨bx, ox, rfl⟩ := HXM.out.some_ (by have := HNN.out; omega)
                              obtain ⟨x, hx⟩ : ∃ x, A.getD i [] = x := ⟨_, rfl⟩
                              have HSX : Hid (∀ W, Below wm.heap.size wm W → W.cell? ⟨bx, ox + i, none⟩ = some (.string (strB x))) := Lib.hid (fun W hW => by have h1 := ln_cell (HXM.out.below hW) i (by have := HNN.out; omega); rw [hx] at h1; exact h1)
                              have HXL : Hid (x.length ≤ 1000) := Lib.hid (HAL.out.1 x (by rw [← hx]; exact getD_mem u2))
                              have hib : i < n6 := by have := HNN.out; omega
                              have hibI : (i : Int) < (n6 : Int) := by omega
                              have hibn : ¬ n6 ≤ i := by omega
                              obtain ⟨Y, hY⟩ : ∃ Y, strB (45 :: x) = Y := ⟨_, rfl⟩
                              have DC : Hid (∀ W, (Op.stringOp .add ⟨#[45]⟩ (strB x)).run Tryd.prog W = .ok (.string Y) W) := Lib.hid (fun W => by rw [← hY]; exact run_catL [45] x (by have := HXL.out; simp only [List.length_cons, List.length_nil]; omega) W)
                              have HCS : Hid (#[Value.string Y] = (lnK.cells (45 :: x)).toArray) := Lib.hid (by rw [← hY]; rfl)
                              have HF2 : Hid (Fit (ms.drop (n + 1)) (A.drop (i + 1)) (B.drop (j))) := Lib.hid (by rw [u1]; exact f3)
                              have HG2 : Hid (hkGo ms A B (ms.drop (n + 1)) (n + 1) (i + 1) (j) true (putF (V.map (·.1)) false i j (45 :: x)) = Z) := Lib.hid (by have h1 := hgo; rw [go_cons, if_pos hnear, if_neg (by decide), if_pos rfl] at h1; rw [← hx]; exact h1)
                              have HKV : Hid (V.length = V1) := HV1
                              obtain ⟨N1, hN1⟩ : ∃ N1, V1 + 1 = N1 := ⟨_, rfl⟩
                              have HN1 := Lib.hid hN1
                              have HVE : Hid (V.length ≤ n) := Lib.hid HVN.out.1
                              have HVX : Hid (∀ z ∈ V, z.1.ls.length ≤ n) := Lib.hid HVN.out.2
                              have HRW : Hid (OwnG hkK RunkT wo wm.heap.size (.slice ar V1 cr) V) := Lib.hid (by have h1 := HRKo.out.row; rw [HV1.out] at h1; exact h1)
                              have W5 : IntKind.i64.wrap ((N1 : Int) - 1) = (V1 : Int) := by rw [IntWalk.i64_in _ (by have h1 := HVN.out.1; have h2 := HV1.out; omega)]; omega
                              have hk0 : (0 : Int) ≤ (V1 : Int) := by omega
                              have hkN : (V1 : Int) < (N1 : Int) := by omega
                              have hN0 : (0 : Int) < (N1 : Int) := by omega
                              have HPE : Hid (∀ v' : Value, (V ++ [((⟨i, j, [] ++ [45 :: x]⟩ : HkV), v')]).map (·.1) = putF (V.map (·.1)) false i j (45 :: x)) := Lib.hid (fun v' => put_new_eq V v' i j (45 :: x))
                              have HMW : Hid (∀ W, Below wm.heap.size wm W → W.cell? ⟨b13, o13 + n, none⟩ = some (.int .u8 2)) := Lib.hid (fun W hW => HMC.out W hW)
                              clear hN1 hx hY hft hgo hnear f3 u1 u2 u3 f1
                              go_wp2_with (at_builtin; go_loud (refine appG_told hkK Tryd.underlying26 infoRk rfl rfl _ _ rfl wm.heap.size _ V rfl (HRW.out.alloc _) (some ⟨wo.heap.size, 0, none⟩) 1 1 [((⟨i, j, []⟩ : HkV), Value.slice none 0 0)] rfl (oneG wo ((⟨i, j, []⟩ : HkV), Value.slice none 0 0) rfl RunkT _ rfl) (by have h1 := HVE.out; have h2 := HNL.out; have h3 := HN.out.2; omega) (by have := HBWo.out.size; simp; omega) N1 (by rw [← HN1.out, HV1.out]) ?_); intro a2 cr2 wq ho hg ht; have hX2 := (HRKo.out.below ((Below.refl _ _).alloc (Nat.le_refl _) _)).more ⟨i, j, []⟩ rfl (by rw [HV1.out, HN1.out]; exact ho) (by rw [HV1.out]; exact hg) (by rw [HV1.out, HN1.out]; exact ht); have hB2 := (HBWo.out.alloc HBWo.out.size _).grown hg (by have := HBWo.out.size; simp; omega) (fun k h => (HRW.out.lt k h).1); obtain ⟨g, rfl, _, _, _⟩ := ho.row (by have := HN1.out; omega); have HXd := Lib.hid (hX2.below (Below.refl _ _).drew); have HBd := Lib.hid hB2.drew; have k13 := HMW.out wq hB2; clear ho hg ht hX2 hB2)
                              refine wp_region_held_drew (S := fun W => W.cell? ⟨bx, ox + i, none⟩ = some (.string (strB x))) (by kernel_rfl) (HSX.out _ HBd.out) (fun hHeld => ?_)
                              generalize wq.drew = wd at HXd HBd hHeld ⊢
                              refine wpAnyH_take (i := 0) (oi := ⟨some 157, .move (.tmp 15), _, _, _, _⟩) (v := (.slice (some ⟨g, 0, none⟩) N1 cr2)) rfl (by kernel_rfl) (by kernel_rfl) (by kernel_rfl) (fun _ _ _ h => h) (Or.inl ⟨by rfl, fun W hW => by go_simp⟩) (by assumption) ?_
                              simp only [Act.put, List.setIfInBounds_toArray, List.set_cons_zero, List.set_cons_succ]
                              refine wpAnyH_take (i := 1) (oi := ⟨some 158, .move (.tmp 22), _, _, _, _⟩) (v := (.int .i64 (V1 : Nat))) rfl (by kernel_rfl) (by kernel_rfl) (by kernel_rfl) (fun _ _ _ h => h) (Or.inl ⟨by rfl, fun W hW => by go_simp⟩) (by assumption) ?_
                              simp only [Act.put, List.setIfInBounds_toArray, List.set_cons_zero, List.set_cons_succ]
                              refine wpAnyH_take (i := 2) (oi := ⟨some 159, .move (.tmp 15), _, _, _, _⟩) (v := (.slice (some ⟨g, 0, none⟩) N1 cr2)) rfl (by kernel_rfl) (by kernel_rfl) (by kernel_rfl) (fun _ _ _ h => h) (Or.inl ⟨by rfl, fun W hW => by go_simp⟩) (by assumption) ?_
                              simp only [Act.put, List.setIfInBounds_toArray, List.set_cons_zero, List.set_cons_succ]
                              refine wpAnyH_take (i := 3) (oi := ⟨some 160, .move (.tmp 22), _, _, _, _⟩) (v := (.int .i64 (V1 : Nat))) rfl (by kernel_rfl) (by kernel_rfl) (by kernel_rfl) (fun _ _ _ h => h) (Or.inl ⟨by rfl, fun W hW => by go_simp⟩) (by assumption) ?_
                              simp only [Act.put, List.setIfInBounds_toArray, List.set_cons_zero, List.set_cons_succ]
                              refine wpAnyH_take (i := 4) (oi := ⟨some 161, .indexAddr 26 (.tmp 159) (.tmp 160), _, _, _, _⟩) (v := (.pointer (some ⟨g, 0 + V1 * 3, none⟩))) rfl (by kernel_rfl) (by kernel_rfl) (by kernel_rfl) (fun _ _ _ h => h) (Or.inl ⟨by rfl, fun W hW => by go_simp⟩) (by assumption) ?_
                              simp only [Act.put, List.setIfInBounds_toArray, List.set_cons_zero, List.set_cons_succ]
                              refine wpAnyH_take (i := 5) (oi := ⟨some 162, .fieldAddr 55 (.tmp 161) 2, _, _, _, _⟩) (v := (.pointer (some ⟨g, 0 + V1 * 3 + 2, none⟩))) rfl (by kernel_rfl) (by kernel_rfl) (by kernel_rfl) (fun _ _ _ h => h) (Or.inl ⟨by rfl, fun W hW => by go_simp⟩) (by assumption) ?_
                              simp only [Act.put, List.setIfInBounds_toArray, List.set_cons_zero, List.set_cons_succ]
                              refine wpAnyH_take (i := 7) (oi := ⟨some 164, .move (.tmp 6), _, _, _, _⟩) (v := (.slice (some ⟨bx, ox, none⟩) n6 c6)) rfl (by kernel_rfl) (by kernel_rfl) (by kernel_rfl) (fun _ _ _ h => h) (Or.inl ⟨by rfl, fun W hW => by go_simp⟩) (by assumption) ?_
                              simp only [Act.put, List.setIfInBounds_toArray, List.set_cons_zero, List.set_cons_succ]
                              refine wpAnyH_take (i := 8) (oi := ⟨some 165, .move (.tmp 16), _, _, _, _⟩) (v := (.int .i64 (i : Nat))) rfl (by kernel_rfl) (by kernel_rfl) (by kernel_rfl) (fun _ _ _ h => h) (Or.inl ⟨by rfl, fun W hW => by go_simp⟩) (by assumption) ?_
                              simp only [Act.put, List.setIfInBounds_toArray, List.set_cons_zero, List.set_cons_succ]
                              refine wpAnyH_take (i := 9) (oi := ⟨some 166, .indexAddr 32 (.tmp 164) (.tmp 165), _, _, _, _⟩) (v := (.pointer (some ⟨bx, ox + i, none⟩))) rfl (by kernel_rfl) (by kernel_rfl) (by kernel_rfl) (fun _ _ _ h => h) (Or.inl ⟨by rfl, fun W hW => by go_simp⟩) (by assumption) ?_
                              simp only [Act.put, List.setIfInBounds_toArray, List.set_cons_zero, List.set_cons_succ]
                              refine wpAnyH_take (i := 10) (oi := ⟨some 167, .load 9 (.tmp 166), _, _, _, _⟩) (v := (.string (strB x))) rfl (by kernel_rfl) (by kernel_rfl) (by kernel_rfl) (fun _ _ _ h => h) (Or.inl ⟨by rfl, fun W hW => by have hcell := hW; go_simp⟩) (by assumption) ?_
                              simp only [Act.put, List.setIfInBounds_toArray, List.set_cons_zero, List.set_cons_succ]
                              refine wpAnyH_take (i := 11) (oi := ⟨some 168, .binOp .add 9 (.const (.string ⟨#[45]⟩)) (.tmp 167) 9, _, _, _, _⟩) (v := (.string Y)) rfl (by kernel_rfl) (by kernel_rfl) (by kernel_rfl) (fun _ _ _ h => h) (Or.inl ⟨by rfl, fun W hW => by have hq := DC.out W; go_simp⟩) (by assumption) ?_
                              simp only [Act.put, List.setIfInBounds_toArray, List.set_cons_zero, List.set_cons_succ]
                              refine wpAnyH_ready (rs := [6, 12]) (by kernel_rfl) (by simp) ?_
                              refine AllReadyH.cons (o := ⟨some 163, .load 32 (.tmp 162), _, _, _, _⟩) rfl (fun K hK => ?_) (AllReadyH.cons (o := ⟨some 169, .buildSlice 32 1 #[(0, (.tmp 168))], _, _, _, _⟩) rfl (fun K hK => ?_) AllReadyH.nil)
                              · have k1 := HXd.out.slot0
                                rw [HKV.out] at k1
                                refine wreadyH ?_
                                go_simp
                                clear k1
                                refine hK.out _ _ hHeld (fun hHeld => ?_)
                                clear hK K
                                refine wpAnyH_ready (rs := [12]) (by kernel_rfl) (by simp) ?_
                                refine AllReadyH.cons (o := ⟨some 169, .buildSlice 32 1 #[(0, (.tmp 168))], _, _, _, _⟩) rfl (fun K hK => ?_) AllReadyH.nil
                                refine wreadyH ?_
                                go_simp
                                obtain ⟨we, hwe⟩ : ∃ W, wd.alloc (.cells #[.string Y] 9) = W := ⟨_, rfl⟩
                                have HSe : Hid (AtG lnK we (some ⟨wd.heap.size, 0, none⟩) 1 1 [45 :: x]) := Lib.hid (hwe ▸ oneG wd (45 :: x) trivial 9 _ HCS.out)
                                have hbe : Below wd.heap.size wd we := hwe ▸ (Below.refl _ _).alloc (Nat.le_refl _) _
                                have HXe := Lib.hid (HXd.out.below hbe)
                                have HBe := Lib.hid (HBd.out.trans (hbe.mono HBd.out.size))
                                clear hbe
                                rw [hwe]
                                clear hwe
                                refine hK.out _ _ (HSX.out _ HBe.out) (fun hHeld => ?_)
                                clear hK K
                                refine wpAnyH_ready (rs := [13]) (by kernel_rfl) (by simp) ?_
                                refine AllReadyH.cons (o := ⟨some 170, .call { callee := .builtin .append, args := #[(.tmp 163), (.tmp 169)], argTypes := #[32, 32] }, _, _, _, _⟩) rfl (fun K hK => ?_) AllReadyH.nil
                                refine wreadyH (wp_appG_told lnK Tryd.underlying32 infoStH rfl (.tmp 163) (.tmp 169) rfl wm.heap.size (.slice none 0 0) ([] : List Ln) rfl (HXe.out.ln (x := (⟨i, j, []⟩, .slice none 0 0)) (by simp)) _ 1 1 [45 :: x] rfl HSe.out (by simp) HBe.out.size 1 rfl ?_)
                                intro a6 c6 w6 ho hg ht
                                obtain ⟨z1, z2, z3⟩ := HXe.out.slot ho hg ht
                                have hL7 := HXe.out.line ho rfl hg ht
                                rw [HKV.out] at z1 z2 hL7
                                have HB6 := Lib.hid (HBe.out.grown hg HBe.out.size (fun k h => ((HXe.out.ln (x := (⟨i, j, []⟩, .slice none 0 0)) (by simp)).lt k h).1))
                                have HZ3 := Lib.hid z3
                                have HL7 := Lib.hid hL7
                                clear ho hg ht hL7 z3
                                refine hK.out _ _ (HSX.out _ HB6.out) (fun hHeld => ?_)
                                clear hK K
                                refine wpAnyH_take (i := 14) (oi := ⟨some 171, .indexAddr 26 (.tmp 157) (.tmp 158), _, _, _, _⟩) (v := (.pointer (some ⟨g, 0 + V1 * 3, none⟩))) rfl (by kernel_rfl) (by kernel_rfl) (by kernel_rfl) (fun _ _ _ h => h) (Or.inl ⟨by rfl, fun W hW => by go_simp⟩) (by assumption) ?_
                                simp only [Act.put, List.setIfInBounds_toArray, List.set_cons_zero, List.set_cons_succ]
                                refine wpAnyH_take (i := 15) (oi := ⟨some 172, .fieldAddr 55 (.tmp 171) 2, _, _, _, _⟩) (v := (.pointer (some ⟨g, 0 + V1 * 3 + 2, none⟩))) rfl (by kernel_rfl) (by kernel_rfl) (by kernel_rfl) (fun _ _ _ h => h) (Or.inl ⟨by rfl, fun W hW => by go_simp⟩) (by assumption) ?_
                                simp only [Act.put, List.setIfInBounds_toArray, List.set_cons_zero, List.set_cons_succ]
                                refine wpAnyH_ready (rs := [16]) (by kernel_rfl) (by simp) ?_
                                refine AllReadyH.cons (o := ⟨none, .store 32 (.tmp 172) (.tmp 170), _, _, _, _⟩) rfl (fun K hK => ?_) AllReadyH.nil
                                refine wreadyH ?_
                                go_simp
                                obtain ⟨w7, hw7⟩ : ∃ X, w6.setCell ⟨g, V1 * 3 + 2, none⟩ (.slice a6 1 c6) = X := ⟨_, rfl⟩
                                rw [hw7] at HL7
                                have HB7 : Hid (Below wm.heap.size wm w7) := Lib.hid (hw7 ▸ HB6.out.setCell (p := ⟨g, V1 * 3 + 2, none⟩) HZ3.out _)
                                rw [hw7]
                                clear hw7 z1 z2
                                refine hK.out _ _ (HSX.out _ HB7.out) (fun hHeld => ?_)
                                clear hK K
                                refine wpAnyH_done (by kernel_rfl) ?_ _
                                clear hHeld
                                have k14 := HMC.out w7 HB7.out
                                go_wp2
                                go_roundg (N - (n + 1))
                                case measure => have h1 := HI.out; have h2 := HNL.out; omega
                                case rel => exact ⟨n + 1, i + 1, j, true, V ++ [((⟨i, j, [] ++ [45 :: x]⟩ : HkV), Value.slice a6 1 c6)], some ⟨g, 0, none⟩, cr2, by go_num, by go_num, rfl, rfl, by rw [len_snoc, HKV.out, HN1.out], Lib.hid (by have h1 := HI.out; have h2 := HNL.out; omega), HL7, Lib.hid (fun _ => by simp), Lib.hid (by rw [HPE.out]; exact HG2.out), HF2, Lib.hid (by have := HIJ.out; omega), Lib.hid ⟨by rw [len_snoc]; have := HVE.out; omega, fun z hz => by rcases List.mem_append.1 hz with hz | hz; exact Nat.le_succ_of_le (HVX.out z hz); rw [List.mem_singleton.1 hz]; show List.length (_ ++ _) ≤ _; rw [List.length_append]; simp only [List.length_cons, List.length_nil]; omega⟩, HB7⟩
                              · refine wreadyH ?_
                                go_simp
                                obtain ⟨we, hwe⟩ : ∃ W, wd.alloc (.cells #[.string Y] 9) = W := ⟨_, rfl⟩
                                have HSe : Hid (AtG lnK we (some ⟨wd.heap.size, 0, none⟩) 1 1 [45 :: x]) := Lib.hid (hwe ▸ oneG wd (45 :: x) trivial 9 _ HCS.out)
                                have hbe : Below wd.heap.size wd we := hwe ▸ (Below.refl _ _).alloc (Nat.le_refl _) _
                                have HXe := Lib.hid (HXd.out.below hbe)
                                have HBe := Lib.hid (HBd.out.trans (hbe.mono HBd.out.size))
                                clear hbe
                                rw [hwe]
                                clear hwe
                                refine hK.out _ _ (HSX.out _ HBe.out) (fun hHeld => ?_)
                                clear hK K
                                refine wpAnyH_ready (rs := [6]) (by kernel_rfl) (by simp) ?_
                                refine AllReadyH.cons (o := ⟨some 163, .load 32 (.tmp 162), _, _, _, _⟩) rfl (fun K hK => ?_) AllReadyH.nil
                                have k1 := HXe.out.slot0
                                rw [HKV.out] at k1
                                refine wreadyH ?_
                                go_simp
                                clear k1
                                refine hK.out _ _ hHeld (fun hHeld => ?_)
                                clear hK K
                                refine wpAnyH_ready (rs := [13]) (by kernel_rfl) (by simp) ?_
                                refine AllReadyH.cons (o := ⟨some 170, .call { callee := .builtin .append, args := #[(.tmp 163), (.tmp 169)], argTypes := #[32, 32] }, _, _, _, _⟩) rfl (fun K hK => ?_) AllReadyH.nil
                                refine wreadyH (wp_appG_told lnK Tryd.underlying32 infoStH rfl (.tmp 163) (.tmp 169) rfl wm.heap.size (.slice none 0 0) ([] : List Ln) rfl (HXe.out.ln (x := (⟨i, j, []⟩, .slice none 0 0)) (by simp)) _ 1 1 [45 :: x] rfl HSe.out (by simp) HBe.out.size 1 rfl ?_)
                                intro a6 c6 w6 ho hg ht
                                obtain ⟨z1, z2, z3⟩ := HXe.out.slot ho hg ht
                                have hL7 := HXe.out.line ho rfl hg ht
                                rw [HKV.out] at z1 z2 hL7
                                have HB6 := Lib.hid (HBe.out.grown hg HBe.out.size (fun k h => ((HXe.out.ln (x := (⟨i, j, []⟩, .slice none 0 0)) (by simp)).lt k h).1))
                                have HZ3 := Lib.hid z3
                                have HL7 := Lib.hid hL7
                                clear ho hg ht hL7 z3
                                refine hK.out _ _ (HSX.out _ HB6.out) (fun hHeld => ?_)
                                clear hK K
                                refine wpAnyH_take (i := 14) (oi := ⟨some 171, .indexAddr 26 (.tmp 157) (.tmp 158), _, _, _, _⟩) (v := (.pointer (some ⟨g, 0 + V1 * 3, none⟩))) rfl (by kernel_rfl) (by kernel_rfl) (by kernel_rfl) (fun _ _ _ h => h) (Or.inl ⟨by rfl, fun W hW => by go_simp⟩) (by assumption) ?_
                                simp only [Act.put, List.setIfInBounds_toArray, List.set_cons_zero, List.set_cons_succ]
                                refine wpAnyH_take (i := 15) (oi := ⟨some 172, .fieldAddr 55 (.tmp 171) 2, _, _, _, _⟩) (v := (.pointer (some ⟨g, 0 + V1 * 3 + 2, none⟩))) rfl (by kernel_rfl) (by kernel_rfl) (by kernel_rfl) (fun _ _ _ h => h) (Or.inl ⟨by rfl, fun W hW => by go_simp⟩) (by assumption) ?_
                                simp only [Act.put, List.setIfInBounds_toArray, List.set_cons_zero, List.set_cons_succ]
                                refine wpAnyH_ready (rs := [16]) (by kernel_rfl) (by simp) ?_
                                refine AllReadyH.cons (o := ⟨none, .store 32 (.tmp 172) (.tmp 170), _, _, _, _⟩) rfl (fun K hK => ?_) AllReadyH.nil
                                refine wreadyH ?_
                                go_simp
                                obtain ⟨w7, hw7⟩ : ∃ X, w6.setCell ⟨g, V1 * 3 + 2, none⟩ (.slice a6 1 c6) = X := ⟨_, rfl⟩
                                rw [hw7] at HL7
                                have HB7 : Hid (Below wm.heap.size wm w7) := Lib.hid (hw7 ▸ HB6.out.setCell (p := ⟨g, V1 * 3 + 2, none⟩) HZ3.out _)
                                rw [hw7]
                                clear hw7 z1 z2
                                refine hK.out _ _ (HSX.out _ HB7.out) (fun hHeld => ?_)
                                clear hK K
                                refine wpAnyH_done (by kernel_rfl) ?_ _
                                clear hHeld
                                have k14 := HMC.out w7 HB7.out
                                go_wp2
                                go_roundg (N - (n + 1))
                                case measure => have h1 := HI.out; have h2 := HNL.out; omega
                                case rel => exact ⟨n + 1, i + 1, j, true, V ++ [((⟨i, j, [] ++ [45 :: x]⟩ : HkV), Value.slice a6 1 c6)], some ⟨g, 0, none⟩, cr2, by go_num, by go_num, rfl, rfl, by rw [len_snoc, HKV.out, HN1.out], Lib.hid (by have h1 := HI.out; have h2 := HNL.out; omega), HL7, Lib.hid (fun _ => by simp), Lib.hid (by rw [HPE.out]; exact HG2.out), HF2, Lib.hid (by have := HIJ.out; omega), Lib.hid ⟨by rw [len_snoc]; have := HVE.out; omega, fun z hz => by rcases List.mem_append.1 hz with hz | hz; exact Nat.le_succ_of_le (HVX.out z hz); rw [List.mem_singleton.1 hz]; show List.length (_ ++ _) ≤ _; rw [List.length_append]; simp only [List.length_cons, List.length_nil]; omega⟩, HB7⟩
                        · cases op with
                          | true =>
                            as_aux_lemma =>
                              obtain ⟨x0, rb, f2, f3⟩ := fit_three hft
                              obtain ⟨v1, v2, v3⟩ := drop_step ([] : Ln) f2
                              obtain ⟨bx, ox, rfl⟩ := HYM.out.some_ (by have := HNN.out; omega)
                              obtain ⟨x, hx⟩ : ∃ x, B.getD j [] = x := ⟨_, rfl⟩
                              have HSX : Hid (∀ W, Below wm.heap.size wm W → W.cell? ⟨bx, ox + j, none⟩ = some (.string (strB x))) := Lib.hid (fun W hW => by have h1 := ln_cell (HYM.out.below hW) j (by have := HNN.out; omega); rw [hx] at h1; exact h1)
                              have HXL : Hid (x.length ≤ 1000) := Lib.hid (HAL.out.2 x (by rw [← hx]; exact getD_mem v2))
                              have hib : j < n7 := by have := HNN.out; omega
                              have hibI : (j : Int) < (n7 : Int) := by omega
                              have hibn : ¬ n7 ≤ j := by omega
                              obtain ⟨Y, hY⟩ : ∃ Y, strB (43 :: x) = Y := ⟨_, rfl⟩
                              have DC : Hid (∀ W, (Op.stringOp .add ⟨#[43]⟩ (strB x)).run Tryd.prog W = .ok (.string Y) W) := Lib.hid (fun W => by rw [← hY]; exact run_catL [43] x (by have := HXL.out; simp only [List.length_cons, List.length_nil]; omega) W)
                              have HCS : Hid (#[Value.string Y] = (lnK.cells (43 :: x)).toArray) := Lib.hid (by rw [← hY]; rfl)
                              have HF2 : Hid (Fit (ms.drop (n + 1)) (A.drop (i)) (B.drop (j + 1))) := Lib.hid (by rw [v1]; exact f3)
                              have HG2 : Hid (hkGo ms A B (ms.drop (n + 1)) (n + 1) (i) (j + 1) true (putF (V.map (·.1)) true i j (43 :: x)) = Z) := Lib.hid (by have h1 := hgo; rw [go_cons, if_pos hnear, if_neg (by decide), if_neg (by decide)] at h1; rw [← hx]; exact h1)
                              obtain ⟨V0, ⟨⟨f, t, ls⟩, v⟩, rfl⟩ : ∃ V0 z, V = V0 ++ [z] := ⟨V.dropLast, V.getLast (HOP.out rfl), (List.dropLast_concat_getLast (HOP.out rfl)).symm⟩
                              obtain ⟨k, hk⟩ : ∃ k, V0.length = k := ⟨_, rfl⟩
                              have HKV := Lib.hid hk
                              have hv1 := HV1.out
                              rw [len_snoc, hk] at hv1
                              subst hv1
                              have hrow := HRKo.out.row
                              obtain ⟨g, rfl, _, _, _⟩ := hrow.row (by simp)
                              obtain ⟨av, cv, hav, hat⟩ := (HRKo.out.ln (x := (⟨f, t, ls⟩, v)) (by simp)).atG_
                              obtain rfl : v = .slice av ls.length cv := hav
                              obtain ⟨m, hm2⟩ : ∃ m, ls.length = m := ⟨_, rfl⟩
                              have HLS : Hid (ls.length = m ∧ m ≤ 2000) := Lib.hid ⟨hm2, by have h1 := HVN.out.2 (⟨f, t, ls⟩, .slice av ls.length cv) (by simp); simp only at h1; omega⟩
                              obtain ⟨N1, hN1⟩ : ∃ N1, k + 1 = N1 := ⟨_, rfl⟩
                              have HN1 := Lib.hid hN1
                              have HXo := HRKo
                              rw [hm2] at HXo
                              have HXd := Lib.hid (HXo.out.below (Below.refl _ _).drew)
                              have HBd := Lib.hid HBWo.out.drew
                              have W5 : IntKind.i64.wrap ((N1 : Int) - 1) = (k : Int) := by rw [IntWalk.i64_in _ (by have h1 := HVN.out.1; rw [len_snoc] at h1; omega)]; omega
                              have hk0 : (0 : Int) ≤ (k : Int) := by omega
                              have hkN : (k : Int) < (N1 : Int) := by omega
                              have hN0 : (0 : Int) < (N1 : Int) := by omega
                              have HVE : Hid (V0.length + 1 ≤ n) := Lib.hid (by have h1 := HVN.out.1; rw [len_snoc] at h1; exact h1)
                              have HVX : Hid (∀ z ∈ V0, z.1.ls.length ≤ n) := Lib.hid (fun z hz => HVN.out.2 z (List.mem_append_left _ hz))
                              have HMS : Hid (m ≤ n) := Lib.hid (by have h1 := HVN.out.2 (⟨f, t, ls⟩, .slice av ls.length cv) (by simp); simp only at h1; omega)
                              have HPE : Hid (∀ v' : Value, (V0 ++ [((⟨f, t, ls ++ [43 :: x]⟩ : HkV), v')]).map (·.1) = putF ((V0 ++ [((⟨f, t, ls⟩ : HkV), Value.slice av ls.length cv)]).map (·.1)) true i j (43 :: x)) := Lib.hid (fun v' => put_on_eq V0 ⟨f, t, ls⟩ _ v' i j (43 :: x))
                              rw [hN1]
                              clear hk hm2 hN1 hat hrow hx hY hft hgo hnear f3 v1 v2 v3 f2
                              go_wp2_with fail
                              refine wp_region_held_drew (S := fun W => W.cell? ⟨bx, ox + j, none⟩ = some (.string (strB x))) (by kernel_rfl) (HSX.out _ HBd.out) (fun hHeld => ?_)
                              generalize wo.drew = wd at HXd HBd hHeld ⊢
                              refine wpAnyH_take (i := 0) (oi := ⟨some 180, .move (.tmp 15), _, _, _, _⟩) (v := (.slice (some ⟨g, 0, none⟩) N1 cr)) rfl (by kernel_rfl) (by kernel_rfl) (by kernel_rfl) (fun _ _ _ h => h) (Or.inl ⟨by rfl, fun W hW => by go_simp⟩) (by assumption) ?_
                              simp only [Act.put, List.setIfInBounds_toArray, List.set_cons_zero, List.set_cons_succ]
                              refine wpAnyH_take (i := 1) (oi := ⟨some 181, .move (.tmp 22), _, _, _, _⟩) (v := (.int .i64 (k : Nat))) rfl (by kernel_rfl) (by kernel_rfl) (by kernel_rfl) (fun _ _ _ h => h) (Or.inl ⟨by rfl, fun W hW => by go_simp⟩) (by assumption) ?_
                              simp only [Act.put, List.setIfInBounds_toArray, List.set_cons_zero, List.set_cons_succ]
                              refine wpAnyH_take (i := 2) (oi := ⟨some 182, .move (.tmp 15), _, _, _, _⟩) (v := (.slice (some ⟨g, 0, none⟩) N1 cr)) rfl (by kernel_rfl) (by kernel_rfl) (by kernel_rfl) (fun _ _ _ h => h) (Or.inl ⟨by rfl, fun W hW => by go_simp⟩) (by assumption) ?_
                              simp only [Act.put, List.setIfInBounds_toArray, List.set_cons_zero, List.set_cons_succ]
                              refine wpAnyH_take (i := 3) (oi := ⟨some 183, .move (.tmp 22), _, _, _, _⟩) (v := (.int .i64 (k : Nat))) rfl (by kernel_rfl) (by kernel_rfl) (by kernel_rfl) (fun _ _ _ h => h) (Or.inl ⟨by rfl, fun W hW => by go_simp⟩) (by assumption) ?_
                              simp only [Act.put, List.setIfInBounds_toArray, List.set_cons_zero, List.set_cons_succ]
                              refine wpAnyH_take (i := 4) (oi := ⟨some 184, .indexAddr 26 (.tmp 182) (.tmp 183), _, _, _, _⟩) (v := (.pointer (some ⟨g, 0 + k * 3, none⟩))) rfl (by kernel_rfl) (by kernel_rfl) (by kernel_rfl) (fun _ _ _ h => h) (Or.inl ⟨by rfl, fun W hW => by go_simp⟩) (by assumption) ?_
                              simp only [Act.put, List.setIfInBounds_toArray, List.set_cons_zero, List.set_cons_succ]
                              refine wpAnyH_take (i := 5) (oi := ⟨some 185, .fieldAddr 55 (.tmp 184) 2, _, _, _, _⟩) (v := (.pointer (some ⟨g, 0 + k * 3 + 2, none⟩))) rfl (by kernel_rfl) (by kernel_rfl) (by kernel_rfl) (fun _ _ _ h => h) (Or.inl ⟨by rfl, fun W hW => by go_simp⟩) (by assumption) ?_
                              simp only [Act.put, List.setIfInBounds_toArray, List.set_cons_zero, List.set_cons_succ]
                              refine wpAnyH_take (i := 7) (oi := ⟨some 187, .move (.tmp 7), _, _, _, _⟩) (v := (.slice (some ⟨bx, ox, none⟩) n7 c7)) rfl (by kernel_rfl) (by kernel_rfl) (by kernel_rfl) (fun _ _ _ h => h) (Or.inl ⟨by rfl, fun W hW => by go_simp⟩) (by assumption) ?_
                              simp only [Act.put, List.setIfInBounds_toArray, List.set_cons_zero, List.set_cons_succ]
                              refine wpAnyH_take (i := 8) (oi := ⟨some 188, .move (.tmp 17), _, _, _, _⟩) (v := (.int .i64 (j : Nat))) rfl (by kernel_rfl) (by kernel_rfl) (by kernel_rfl) (fun _ _ _ h => h) (Or.inl ⟨by rfl, fun W hW => by go_simp⟩) (by assumption) ?_
                              simp only [Act.put, List.setIfInBounds_toArray, List.set_cons_zero, List.set_cons_succ]
                              refine wpAnyH_take (i := 9) (oi := ⟨some 189, .indexAddr 32 (.tmp 187) (.tmp 188), _, _, _, _⟩) (v := (.pointer (some ⟨bx, ox + j, none⟩))) rfl (by kernel_rfl) (by kernel_rfl) (by kernel_rfl) (fun _ _ _ h => h) (Or.inl ⟨by rfl, fun W hW => by go_simp⟩) (by assumption) ?_
                              simp only [Act.put, List.setIfInBounds_toArray, List.set_cons_zero, List.set_cons_succ]
                              refine wpAnyH_take (i := 10) (oi := ⟨some 190, .load 9 (.tmp 189), _, _, _, _⟩) (v := (.string (strB x))) rfl (by kernel_rfl) (by kernel_rfl) (by kernel_rfl) (fun _ _ _ h => h) (Or.inl ⟨by rfl, fun W hW => by have hcell := hW; go_simp⟩) (by assumption) ?_
                              simp only [Act.put, List.setIfInBounds_toArray, List.set_cons_zero, List.set_cons_succ]
                              refine wpAnyH_take (i := 11) (oi := ⟨some 191, .binOp .add 9 (.const (.string ⟨#[43]⟩)) (.tmp 190) 9, _, _, _, _⟩) (v := (.string Y)) rfl (by kernel_rfl) (by kernel_rfl) (by kernel_rfl) (fun _ _ _ h => h) (Or.inl ⟨by rfl, fun W hW => by have hq := DC.out W; go_simp⟩) (by assumption) ?_
                              simp only [Act.put, List.setIfInBounds_toArray, List.set_cons_zero, List.set_cons_succ]
                              refine wpAnyH_ready (rs := [6, 12]) (by kernel_rfl) (by simp) ?_
                              refine AllReadyH.cons (o := ⟨some 186, .load 32 (.tmp 185), _, _, _, _⟩) rfl (fun K hK => ?_) (AllReadyH.cons (o := ⟨some 192, .buildSlice 32 1 #[(0, (.tmp 191))], _, _, _, _⟩) rfl (fun K hK => ?_) AllReadyH.nil)
                              · have k1 := HXd.out.slot0
                                rw [HKV.out] at k1
                                refine wreadyH ?_
                                go_simp
                                clear k1
                                refine hK.out _ _ hHeld (fun hHeld => ?_)
                                clear hK K
                                refine wpAnyH_ready (rs := [12]) (by kernel_rfl) (by simp) ?_
                                refine AllReadyH.cons (o := ⟨some 192, .buildSlice 32 1 #[(0, (.tmp 191))], _, _, _, _⟩) rfl (fun K hK => ?_) AllReadyH.nil
                                refine wreadyH ?_
                                go_simp
                                obtain ⟨we, hwe⟩ : ∃ W, wd.alloc (.cells #[.string Y] 9) = W := ⟨_, rfl⟩
                                have HSe : Hid (AtG lnK we (some ⟨wd.heap.size, 0, none⟩) 1 1 [43 :: x]) := Lib.hid (hwe ▸ oneG wd (43 :: x) trivial 9 _ HCS.out)
                                have hbe : Below wd.heap.size wd we := hwe ▸ (Below.refl _ _).alloc (Nat.le_refl _) _
                                have HXe := Lib.hid (HXd.out.below hbe)
                                have HBe := Lib.hid (HBd.out.trans (hbe.mono HBd.out.size))
                                clear hbe
                                rw [hwe]
                                clear hwe
                                refine hK.out _ _ (HSX.out _ HBe.out) (fun hHeld => ?_)
                                clear hK K
                                refine wpAnyH_ready (rs := [13]) (by kernel_rfl) (by simp) ?_
                                refine AllReadyH.cons (o := ⟨some 193, .call { callee := .builtin .append, args := #[(.tmp 186), (.tmp 192)], argTypes := #[32, 32] }, _, _, _, _⟩) rfl (fun K hK => ?_) AllReadyH.nil
                                refine wreadyH (wp_appG_told lnK Tryd.underlying32 infoStH rfl (.tmp 186) (.tmp 192) rfl wm.heap.size (.slice av m cv) ls rfl (HXe.out.ln (x := (⟨f, t, ls⟩, .slice av m cv)) (by simp)) _ 1 1 [43 :: x] rfl HSe.out (by have := HLS.out; omega) HBe.out.size (m + 1) (by rw [HLS.out.1]) ?_)
                                intro a6 c6 w6 ho hg ht
                                obtain ⟨z1, z2, z3⟩ := HXe.out.slot ho hg ht
                                have hL7 := HXe.out.line ho rfl hg ht
                                rw [HKV.out] at z1 z2 hL7
                                have HB6 := Lib.hid (HBe.out.grown hg HBe.out.size (fun k h => ((HXe.out.ln (x := (⟨f, t, ls⟩, .slice av m cv)) (by simp)).lt k h).1))
                                have HZ3 := Lib.hid z3
                                have HL7 := Lib.hid hL7
                                clear ho hg ht hL7 z3
                                refine hK.out _ _ (HSX.out _ HB6.out) (fun hHeld => ?_)
                                clear hK K
                                refine wpAnyH_take (i := 14) (oi := ⟨some 194, .indexAddr 26 (.tmp 180) (.tmp 181), _, _, _, _⟩) (v := (.pointer (some ⟨g, 0 + k * 3, none⟩))) rfl (by kernel_rfl) (by kernel_rfl) (by kernel_rfl) (fun _ _ _ h => h) (Or.inl ⟨by rfl, fun W hW => by go_simp⟩) (by assumption) ?_
                                simp only [Act.put, List.setIfInBounds_toArray, List.set_cons_zero, List.set_cons_succ]
                                refine wpAnyH_take (i := 15) (oi := ⟨some 195, .fieldAddr 55 (.tmp 194) 2, _, _, _, _⟩) (v := (.pointer (some ⟨g, 0 + k * 3 + 2, none⟩))) rfl (by kernel_rfl) (by kernel_rfl) (by kernel_rfl) (fun _ _ _ h => h) (Or.inl ⟨by rfl, fun W hW => by go_simp⟩) (by assumption) ?_
                                simp only [Act.put, List.setIfInBounds_toArray, List.set_cons_zero, List.set_cons_succ]
                                refine wpAnyH_ready (rs := [16]) (by kernel_rfl) (by simp) ?_
                                refine AllReadyH.cons (o := ⟨none, .store 32 (.tmp 195) (.tmp 193), _, _, _, _⟩) rfl (fun K hK => ?_) AllReadyH.nil
                                refine wreadyH ?_
                                go_simp
                                obtain ⟨w7, hw7⟩ : ∃ X, w6.setCell ⟨g, k * 3 + 2, none⟩ (.slice a6 (m + 1) c6) = X := ⟨_, rfl⟩
                                rw [hw7] at HL7
                                have HB7 : Hid (Below wm.heap.size wm w7) := Lib.hid (hw7 ▸ HB6.out.setCell (p := ⟨g, k * 3 + 2, none⟩) HZ3.out _)
                                rw [hw7]
                                clear hw7 z1 z2
                                refine hK.out _ _ (HSX.out _ HB7.out) (fun hHeld => ?_)
                                clear hK K
                                refine wpAnyH_done (by kernel_rfl) ?_ _
                                clear hHeld
                                have k14 := HMC.out w7 HB7.out
                                go_wp2
                                go_roundg (N - (n + 1))
                                case measure => have h1 := HI.out; have h2 := HNL.out; omega
                                case rel => exact ⟨n + 1, i, j + 1, true, V0 ++ [((⟨f, t, ls ++ [43 :: x]⟩ : HkV), Value.slice a6 (m + 1) c6)], some ⟨g, 0, none⟩, cr, by go_num, rfl, by go_num, rfl, by rw [len_snoc, HKV.out, HN1.out], Lib.hid (by have h1 := HI.out; have h2 := HNL.out; omega), HL7, Lib.hid (fun _ => by simp), Lib.hid (by rw [HPE.out]; exact HG2.out), HF2, Lib.hid (by have := HIJ.out; omega), Lib.hid ⟨by rw [len_snoc]; have := HVE.out; omega, fun z hz => by rcases List.mem_append.1 hz with hz | hz; exact Nat.le_succ_of_le (HVX.out z hz); rw [List.mem_singleton.1 hz]; show List.length (_ ++ _) ≤ _; rw [List.length_append]; have := HLS.out; have := HMS.out; simp only [List.length_cons, List.length_nil]; omega⟩, HB7⟩
                              · refine wreadyH ?_
                                go_simp
                                obtain ⟨we, hwe⟩ : ∃ W, wd.alloc (.cells #[.string Y] 9) = W := ⟨_, rfl⟩
                                have HSe : Hid (AtG lnK we (some ⟨wd.heap.size, 0, none⟩) 1 1 [43 :: x]) := Lib.hid (hwe ▸ oneG wd (43 :: x) trivial 9 _ HCS.out)
                                have hbe : Below wd.heap.size wd we := hwe ▸ (Below.refl _ _).alloc (Nat.le_refl _) _
                                have HXe := Lib.hid (HXd.out.below hbe)
                                have HBe := Lib.hid (HBd.out.trans (hbe.mono HBd.out.size))
                                clear hbe
                                rw [hwe]
                                clear hwe
                                refine hK.out _ _ (HSX.out _ HBe.out) (fun hHeld => ?_)
                                clear hK K
                                refine wpAnyH_ready (rs := [6]) (by kernel_rfl) (by simp) ?_
                                refine AllReadyH.cons (o := ⟨some 186, .load 32 (.tmp 185), _, _, _, _⟩) rfl (fun K hK => ?_) AllReadyH.nil
                                have k1 := HXe.out.slot0
                                rw [HKV.out] at k1
                                refine wreadyH ?_
                                go_simp
                                clear k1
                                refine hK.out _ _ hHeld (fun hHeld => ?_)
                                clear hK K
                                refine wpAnyH_ready (rs := [13]) (by kernel_rfl) (by simp) ?_
                                refine AllReadyH.cons (o := ⟨some 193, .call { callee := .builtin .append, args := #[(.tmp 186), (.tmp 192)], argTypes := #[32, 32] }, _, _, _, _⟩) rfl (fun K hK => ?_) AllReadyH.nil
                                refine wreadyH (wp_appG_told lnK Tryd.underlying32 infoStH rfl (.tmp 186) (.tmp 192) rfl wm.heap.size (.slice av m cv) ls rfl (HXe.out.ln (x := (⟨f, t, ls⟩, .slice av m cv)) (by simp)) _ 1 1 [43 :: x] rfl HSe.out (by have := HLS.out; omega) HBe.out.size (m + 1) (by rw [HLS.out.1]) ?_)
                                intro a6 c6 w6 ho hg ht
                                obtain ⟨z1, z2, z3⟩ := HXe.out.slot ho hg ht
                                have hL7 := HXe.out.line ho rfl hg ht
                                rw [HKV.out] at z1 z2 hL7
                                have HB6 := Lib.hid (HBe.out.grown hg HBe.out.size (fun k h => ((HXe.out.ln (x := (⟨f, t, ls⟩, .slice av m cv)) (by simp)).lt k h).1))
                                have HZ3 := Lib.hid z3
                                have HL7 := Lib.hid hL7
                                clear ho hg ht hL7 z3
                                refine hK.out _ _ (HSX.out _ HB6.out) (fun hHeld => ?_)
                                clear hK K
                                refine wpAnyH_take (i := 14) (oi := ⟨some 194, .indexAddr 26 (.tmp 180) (.tmp 181), _, _, _, _⟩) (v := (.pointer (some ⟨g, 0 + k * 3, none⟩))) rfl (by kernel_rfl) (by kernel_rfl) (by kernel_rfl) (fun _ _ _ h => h) (Or.inl ⟨by rfl, fun W hW => by go_simp⟩) (by assumption) ?_
                                simp only [Act.put, List.setIfInBounds_toArray, List.set_cons_zero, List.set_cons_succ]
                                refine wpAnyH_take (i := 15) (oi := ⟨some 195, .fieldAddr 55 (.tmp 194) 2, _, _, _, _⟩) (v := (.pointer (some ⟨g, 0 + k * 3 + 2, none⟩))) rfl (by kernel_rfl) (by kernel_rfl) (by kernel_rfl) (fun _ _ _ h => h) (Or.inl ⟨by rfl, fun W hW => by go_simp⟩) (by assumption) ?_
                                simp only [Act.put, List.setIfInBounds_toArray, List.set_cons_zero, List.set_cons_succ]
                                refine wpAnyH_ready (rs := [16]) (by kernel_rfl) (by simp) ?_
                                refine AllReadyH.cons (o := ⟨none, .store 32 (.tmp 195) (.tmp 193), _, _, _, _⟩) rfl (fun K hK => ?_) AllReadyH.nil
                                refine wreadyH ?_
                                go_simp
                                obtain ⟨w7, hw7⟩ : ∃ X, w6.setCell ⟨g, k * 3 + 2, none⟩ (.slice a6 (m + 1) c6) = X := ⟨_, rfl⟩
                                rw [hw7] at HL7
                                have HB7 : Hid (Below wm.heap.size wm w7) := Lib.hid (hw7 ▸ HB6.out.setCell (p := ⟨g, k * 3 + 2, none⟩) HZ3.out _)
                                rw [hw7]
                                clear hw7 z1 z2
                                refine hK.out _ _ (HSX.out _ HB7.out) (fun hHeld => ?_)
                                clear hK K
                                refine wpAnyH_done (by kernel_rfl) ?_ _
                                clear hHeld
                                have k14 := HMC.out w7 HB7.out
                                go_wp2
                                go_roundg (N - (n + 1))
                                case measure => have h1 := HI.out; have h2 := HNL.out; omega
                                case rel => exact ⟨n + 1, i, j + 1, true, V0 ++ [((⟨f, t, ls ++ [43 :: x]⟩ : HkV), Value.slice a6 (m + 1) c6)], some ⟨g, 0, none⟩, cr, by go_num, rfl, by go_num, rfl, by rw [len_snoc, HKV.out, HN1.out], Lib.hid (by have h1 := HI.out; have h2 := HNL.out; omega), HL7, Lib.hid (fun _ => by simp), Lib.hid (by rw [HPE.out]; exact HG2.out), HF2, Lib.hid (by have := HIJ.out; omega), Lib.hid ⟨by rw [len_snoc]; have := HVE.out; omega, fun z hz => by rcases List.mem_append.1 hz with hz | hz; exact Nat.le_succ_of_le (HVX.out z hz); rw [List.mem_singleton.1 hz]; show List.length (_ ++ _) ≤ _; rw [List.length_append]; have := HLS.out; have := HMS.out; simp only [List.length_cons, List.length_nil]; omega⟩, HB7⟩
                          | false =>
                            as_aux_lemma =>
                              obtain ⟨x0, rb, f2, f3⟩ := fit_three hft
                              obtain ⟨v1, v2, v3⟩ := drop_step ([] : Ln) f2
                              obtain ⟨bx, ox, rfl⟩ := HYM.out.some_ (by have := HNN.out; omega)
                              obtain ⟨x, hx⟩ : ∃ x, B.getD j [] = x := ⟨_, rfl⟩
                              have HSX : Hid (∀ W, Below wm.heap.size wm W → W.cell? ⟨bx, ox + j, none⟩ = some (.string (strB x))) := Lib.hid (fun W hW => by have h1 := ln_cell (HYM.out.below hW) j (by have := HNN.out; omega); rw [hx] at h1; exact h1)
                              have HXL : Hid (x.length ≤ 1000) := Lib.hid (HAL.out.2 x (by rw [← hx]; exact getD_mem v2))
                              have hib : j < n7 := by have := HNN.out; omega
                              have hibI : (j : Int) < (n7 : Int) := by omega
                              have hibn : ¬ n7 ≤ j := by omega
                              obtain ⟨Y, hY⟩ : ∃ Y, strB (43 :: x) = Y := ⟨_, rfl⟩
                              have DC : Hid (∀ W, (Op.stringOp .add ⟨#[43]⟩ (strB x)).run Tryd.prog W = .ok (.string Y) W) := Lib.hid (fun W => by rw [← hY]; exact run_catL [43] x (by have := HXL.out; simp only [List.length_cons, List.length_nil]; omega) W)
                              have HCS : Hid (#[Value.string Y] = (lnK.cells (43 :: x)).toArray) := Lib.hid (by rw [← hY]; rfl)
                              have HF2 : Hid (Fit (ms.drop (n + 1)) (A.drop (i)) (B.drop (j + 1))) := Lib.hid (by rw [v1]; exact f3)
                              have HG2 : Hid (hkGo ms A B (ms.drop (n + 1)) (n + 1) (i) (j + 1) true (putF (V.map (·.1)) false i j (43 :: x)) = Z) := Lib.hid (by have h1 := hgo; rw [go_cons, if_pos hnear, if_neg (by decide), if_neg (by decide)] at h1; rw [← hx]; exact h1)
                              have HKV : Hid (V.length = V1) := HV1
                              obtain ⟨N1, hN1⟩ : ∃ N1, V1 + 1 = N1 := ⟨_, rfl⟩
                              have HN1 := Lib.hid hN1
                              have HVE : Hid (V.length ≤ n) := Lib.hid HVN.out.1
                              have HVX : Hid (∀ z ∈ V, z.1.ls.length ≤ n) := Lib.hid HVN.out.2
                              have HRW : Hid (OwnG hkK RunkT wo wm.heap.size (.slice ar V1 cr) V) := Lib.hid (by have h1 := HRKo.out.row; rw [HV1.out] at h1; exact h1)
                              have W5 : IntKind.i64.wrap ((N1 : Int) - 1) = (V1 : Int) := by rw [IntWalk.i64_in _ (by have h1 := HVN.out.1; have h2 := HV1.out; omega)]; omega
                              have hk0 : (0 : Int) ≤ (V1 : Int) := by omega
                              have hkN : (V1 : Int) < (N1 : Int) := by omega
                              have hN0 : (0 : Int) < (N1 : Int) := by omega
                              have HPE : Hid (∀ v' : Value, (V ++ [((⟨i, j, [] ++ [43 :: x]⟩ : HkV), v')]).map (·.1) = putF (V.map (·.1)) false i j (43 :: x)) := Lib.hid (fun v' => put_new_eq V v' i j (43 :: x))
                              have HMW : Hid (∀ W, Below wm.heap.size wm W → W.cell? ⟨b13, o13 + n, none⟩ = some (.int .u8 3)) := Lib.hid (fun W hW => HMC.out W hW)
                              clear hN1 hx hY hft hgo hnear f3 v1 v2 v3 f2
                              go_wp2_with (at_builtin; go_loud (refine appG_told hkK Tryd.underlying26 infoRk rfl rfl _ _ rfl wm.heap.size _ V rfl (HRW.out.alloc _) (some ⟨wo.heap.size, 0, none⟩) 1 1 [((⟨i, j, []⟩ : HkV), Value.slice none 0 0)] rfl (oneG wo ((⟨i, j, []⟩ : HkV), Value.slice none 0 0) rfl RunkT _ rfl) (by have h1 := HVE.out; have h2 := HNL.out; have h3 := HN.out.2; omega) (by have := HBWo.out.size; simp; omega) N1 (by rw [← HN1.out, HV1.out]) ?_); intro a2 cr2 wq ho hg ht; have hX2 := (HRKo.out.below ((Below.refl _ _).alloc (Nat.le_refl _) _)).more ⟨i, j, []⟩ rfl (by rw [HV1.out, HN1.out]; exact ho) (by rw [HV1.out]; exact hg) (by rw [HV1.out, HN1.out]; exact ht); have hB2 := (HBWo.out.alloc HBWo.out.size _).grown hg (by have := HBWo.out.size; simp; omega) (fun k h => (HRW.out.lt k h).1); obtain ⟨g, rfl, _, _, _⟩ := ho.row (by have := HN1.out; omega); have HXd := Lib.hid (hX2.below (Below.refl _ _).drew); have HBd := Lib.hid hB2.drew; have k13 := HMW.out wq hB2; clear ho hg ht hX2 hB2)
                              refine wp_region_held_drew (S := fun W => W.cell? ⟨bx, ox + j, none⟩ = some (.string (strB x))) (by kernel_rfl) (HSX.out _ HBd.out) (fun hHeld => ?_)
                              generalize wq.drew = wd at HXd HBd hHeld ⊢
                              refine wpAnyH_take (i := 0) (oi := ⟨some 180, .move (.tmp 15), _, _, _, _⟩) (v := (.slice (some ⟨g, 0, none⟩) N1 cr2)) rfl (by kernel_rfl) (by kernel_rfl) (by kernel_rfl) (fun _ _ _ h => h) (Or.inl ⟨by rfl, fun W hW => by go_simp⟩) (by assumption) ?_
                              simp only [Act.put, List.setIfInBounds_toArray, List.set_cons_zero, List.set_cons_succ]
                              refine wpAnyH_take (i := 1) (oi := ⟨some 181, .move (.tmp 22), _, _, _, _⟩) (v := (.int .i64 (V1 : Nat))) rfl (by kernel_rfl) (by kernel_rfl) (by kernel_rfl) (fun _ _ _ h => h) (Or.inl ⟨by rfl, fun W hW => by go_simp⟩) (by assumption) ?_
                              simp only [Act.put, List.setIfInBounds_toArray, List.set_cons_zero, List.set_cons_succ]
                              refine wpAnyH_take (i := 2) (oi := ⟨some 182, .move (.tmp 15), _, _, _, _⟩) (v := (.slice (some ⟨g, 0, none⟩) N1 cr2)) rfl (by kernel_rfl) (by kernel_rfl) (by kernel_rfl) (fun _ _ _ h => h) (Or.inl ⟨by rfl, fun W hW => by go_simp⟩) (by assumption) ?_
                              simp only [Act.put, List.setIfInBounds_toArray, List.set_cons_zero, List.set_cons_succ]
                              refine wpAnyH_take (i := 3) (oi := ⟨some 183, .move (.tmp 22), _, _, _, _⟩) (v := (.int .i64 (V1 : Nat))) rfl (by kernel_rfl) (by kernel_rfl) (by kernel_rfl) (fun _ _ _ h => h) (Or.inl ⟨by rfl, fun W hW => by go_simp⟩) (by assumption) ?_
                              simp only [Act.put, List.setIfInBounds_toArray, List.set_cons_zero, List.set_cons_succ]
                              refine wpAnyH_take (i := 4) (oi := ⟨some 184, .indexAddr 26 (.tmp 182) (.tmp 183), _, _, _, _⟩) (v := (.pointer (some ⟨g, 0 + V1 * 3, none⟩))) rfl (by kernel_rfl) (by kernel_rfl) (by kernel_rfl) (fun _ _ _ h => h) (Or.inl ⟨by rfl, fun W hW => by go_simp⟩) (by assumption) ?_
                              simp only [Act.put, List.setIfInBounds_toArray, List.set_cons_zero, List.set_cons_succ]
                              refine wpAnyH_take (i := 5) (oi := ⟨some 185, .fieldAddr 55 (.tmp 184) 2, _, _, _, _⟩) (v := (.pointer (some ⟨g, 0 + V1 * 3 + 2, none⟩))) rfl (by kernel_rfl) (by kernel_rfl) (by kernel_rfl) (fun _ _ _ h => h) (Or.inl ⟨by rfl, fun W hW => by go_simp⟩) (by assumption) ?_
                              simp only [Act.put, List.setIfInBounds_toArray, List.set_cons_zero, List.set_cons_succ]
                              refine wpAnyH_take (i := 7) (oi := ⟨some 187, .move (.tmp 7), _, _, _, _⟩) (v := (.slice (some ⟨bx, ox, none⟩) n7 c7)) rfl (by kernel_rfl) (by kernel_rfl) (by kernel_rfl) (fun _ _ _ h => h) (Or.inl ⟨by rfl, fun W hW => by go_simp⟩) (by assumption) ?_
                              simp only [Act.put, List.setIfInBounds_toArray, List.set_cons_zero, List.set_cons_succ]
                              refine wpAnyH_take (i := 8) (oi := ⟨some 188, .move (.tmp 17), _, _, _, _⟩) (v := (.int .i64 (j : Nat))) rfl (by kernel_rfl) (by kernel_rfl) (by kernel_rfl) (fun _ _ _ h => h) (Or.inl ⟨by rfl, fun W hW => by go_simp⟩) (by assumption) ?_
                              simp only [Act.put, List.setIfInBounds_toArray, List.set_cons_zero, List.set_cons_succ]
                              refine wpAnyH_take (i := 9) (oi := ⟨some 189, .indexAddr 32 (.tmp 187) (.tmp 188), _, _, _, _⟩) (v := (.pointer (some ⟨bx, ox + j, none⟩))) rfl (by kernel_rfl) (by kernel_rfl) (by kernel_rfl) (fun _ _ _ h => h) (Or.inl ⟨by rfl, fun W hW => by go_simp⟩) (by assumption) ?_
                              simp only [Act.put, List.setIfInBounds_toArray, List.set_cons_zero, List.set_cons_succ]
                              refine wpAnyH_take (i := 10) (oi := ⟨some 190, .load 9 (.tmp 189), _, _, _, _⟩) (v := (.string (strB x))) rfl (by kernel_rfl) (by kernel_rfl) (by kernel_rfl) (fun _ _ _ h => h) (Or.inl ⟨by rfl, fun W hW => by have hcell := hW; go_simp⟩) (by assumption) ?_
                              simp only [Act.put, List.setIfInBounds_toArray, List.set_cons_zero, List.set_cons_succ]
                              refine wpAnyH_take (i := 11) (oi := ⟨some 191, .binOp .add 9 (.const (.string ⟨#[43]⟩)) (.tmp 190) 9, _, _, _, _⟩) (v := (.string Y)) rfl (by kernel_rfl) (by kernel_rfl) (by kernel_rfl) (fun _ _ _ h => h) (Or.inl ⟨by rfl, fun W hW => by have hq := DC.out W; go_simp⟩) (by assumption) ?_
                              simp only [Act.put, List.setIfInBounds_toArray, List.set_cons_zero, List.set_cons_succ]
                              refine wpAnyH_ready (rs := [6, 12]) (by kernel_rfl) (by simp) ?_
                              refine AllReadyH.cons (o := ⟨some 186, .load 32 (.tmp 185), _, _, _, _⟩) rfl (fun K hK => ?_) (AllReadyH.cons (o := ⟨some 192, .buildSlice 32 1 #[(0, (.tmp 191))], _, _, _, _⟩) rfl (fun K hK => ?_) AllReadyH.nil)
                              · have k1 := HXd.out.slot0
                                rw [HKV.out] at k1
                                refine wreadyH ?_
                                go_simp
                                clear k1
                                refine hK.out _ _ hHeld (fun hHeld => ?_)
                                clear hK K
                                refine wpAnyH_ready (rs := [12]) (by kernel_rfl) (by simp) ?_
                                refine AllReadyH.cons (o := ⟨some 192, .buildSlice 32 1 #[(0, (.tmp 191))], _, _, _, _⟩) rfl (fun K hK => ?_) AllReadyH.nil
                                refine wreadyH ?_
                                go_simp
                                obtain ⟨we, hwe⟩ : ∃ W, wd.alloc (.cells #[.string Y] 9) = W := ⟨_, rfl⟩
                                have HSe : Hid (AtG lnK we (some ⟨wd.heap.size, 0, none⟩) 1 1 [43 :: x]) := Lib.hid (hwe ▸ oneG wd (43 :: x) trivial 9 _ HCS.out)
                                have hbe : Below wd.heap.size wd we := hwe ▸ (Below.refl _ _).alloc (Nat.le_refl _) _
                                have HXe := Lib.hid (HXd.out.below hbe)
                                have HBe := Lib.hid (HBd.out.trans (hbe.mono HBd.out.size))
                                clear hbe
                                rw [hwe]
                                clear hwe
                                refine hK.out _ _ (HSX.out _ HBe.out) (fun hHeld => ?_)
                                clear hK K
                                refine wpAnyH_ready (rs := [13]) (by kernel_rfl) (by simp) ?_
                                refine AllReadyH.cons (o := ⟨some 193, .call { callee := .builtin .append, args := #[(.tmp 186), (.tmp 192)], argTypes := #[32, 32] }, _, _, _, _⟩) rfl (fun K hK => ?_) AllReadyH.nil
                                refine wreadyH (wp_appG_told lnK Tryd.underlying32 infoStH rfl (.tmp 186) (.tmp 192) rfl wm.heap.size (.slice none 0 0) ([] : List Ln) rfl (HXe.out.ln (x := (⟨i, j, []⟩, .slice none 0 0)) (by simp)) _ 1 1 [43 :: x] rfl HSe.out (by simp) HBe.out.size 1 rfl ?_)
                                intro a6 c6 w6 ho hg ht
                                obtain ⟨z1, z2, z3⟩ := HXe.out.slot ho hg ht
                                have hL7 := HXe.out.line ho rfl hg ht
                                rw [HKV.out] at z1 z2 hL7
                                have HB6 := Lib.hid (HBe.out.grown hg HBe.out.size (fun k h => ((HXe.out.ln (x := (⟨i, j, []⟩, .slice none 0 0)) (by simp)).lt k h).1))
                                have HZ3 := Lib.hid z3
                                have HL7 := Lib.hid hL7
                                clear ho hg ht hL7 z3
                                refine hK.out _ _ (HSX.out _ HB6.out) (fun hHeld => ?_)
                                clear hK K
                                refine wpAnyH_take (i := 14) (oi := ⟨some 194, .indexAddr 26 (.tmp 180) (.tmp 181), _, _, _, _⟩) (v := (.pointer (some ⟨g, 0 + V1 * 3, none⟩))) rfl (by kernel_rfl) (by kernel_rfl) (by kernel_rfl) (fun _ _ _ h => h) (Or.inl ⟨by rfl, fun W hW => by go_simp⟩) (by assumption) ?_
                                simp only [Act.put, List.setIfInBounds_toArray, List.set_cons_zero, List.set_cons_succ]
                                refine wpAnyH_take (i := 15) (oi := ⟨some 195, .fieldAddr 55 (.tmp 194) 2, _, _, _, _⟩) (v := (.pointer (some ⟨g, 0 + V1 * 3 + 2, none⟩))) rfl (by kernel_rfl) (by kernel_rfl) (by kernel_rfl) (fun _ _ _ h => h) (Or.inl ⟨by rfl, fun W hW => by go_simp⟩) (by assumption) ?_
                                simp only [Act.put, List.setIfInBounds_toArray, List.set_cons_zero, List.set_cons_succ]
                                refine wpAnyH_ready (rs := [16]) (by kernel_rfl) (by simp) ?_
                                refine AllReadyH.cons (o := ⟨none, .store 32 (.tmp 195) (.tmp 193), _, _, _, _⟩) rfl (fun K hK => ?_) AllReadyH.nil
                                refine wreadyH ?_
                                go_simp
                                obtain ⟨w7, hw7⟩ : ∃ X, w6.setCell ⟨g, V1 * 3 + 2, none⟩ (.slice a6 1 c6) = X := ⟨_, rfl⟩
                                rw [hw7] at HL7
                                have HB7 : Hid (Below wm.heap.size wm w7) := Lib.hid (hw7 ▸ HB6.out.setCell (p := ⟨g, V1 * 3 + 2, none⟩) HZ3.out _)
                                rw [hw7]
                                clear hw7 z1 z2
                                refine hK.out _ _ (HSX.out _ HB7.out) (fun hHeld => ?_)
                                clear hK K
                                refine wpAnyH_done (by kernel_rfl) ?_ _
                                clear hHeld
                                have k14 := HMC.out w7 HB7.out
                                go_wp2
                                go_roundg (N - (n + 1))
                                case measure => have h1 := HI.out; have h2 := HNL.out; omega
                                case rel => exact ⟨n + 1, i, j + 1, true, V ++ [((⟨i, j, [] ++ [43 :: x]⟩ : HkV), Value.slice a6 1 c6)], some ⟨g, 0, none⟩, cr2, by go_num, rfl, by go_num, rfl, by rw [len_snoc, HKV.out, HN1.out], Lib.hid (by have h1 := HI.out; have h2 := HNL.out; omega), HL7, Lib.hid (fun _ => by simp), Lib.hid (by rw [HPE.out]; exact HG2.out), HF2, Lib.hid (by have := HIJ.out; omega), Lib.hid ⟨by rw [len_snoc]; have := HVE.out; omega, fun z hz => by rcases List.mem_append.1 hz with hz | hz; exact Nat.le_succ_of_le (HVX.out z hz); rw [List.mem_singleton.1 hz]; show List.length (_ ++ _) ≤ _; rw [List.length_append]; simp only [List.length_cons, List.length_nil]; omega⟩, HB7⟩
                              · refine wreadyH ?_
                                go_simp
                                obtain ⟨we, hwe⟩ : ∃ W, wd.alloc (.cells #[.string Y] 9) = W := ⟨_, rfl⟩
                                have HSe : Hid (AtG lnK we (some ⟨wd.heap.size, 0, none⟩) 1 1 [43 :: x]) := Lib.hid (hwe ▸ oneG wd (43 :: x) trivial 9 _ HCS.out)
                                have hbe : Below wd.heap.size wd we := hwe ▸ (Below.refl _ _).alloc (Nat.le_refl _) _
                                have HXe := Lib.hid (HXd.out.below hbe)
                                have HBe := Lib.hid (HBd.out.trans (hbe.mono HBd.out.size))
                                clear hbe
                                rw [hwe]
                                clear hwe
                                refine hK.out _ _ (HSX.out _ HBe.out) (fun hHeld => ?_)
                                clear hK K
                                refine wpAnyH_ready (rs := [6]) (by kernel_rfl) (by simp) ?_
                                refine AllReadyH.cons (o := ⟨some 186, .load 32 (.tmp 185), _, _, _, _⟩) rfl (fun K hK => ?_) AllReadyH.nil
                                have k1 := HXe.out.slot0
                                rw [HKV.out] at k1
                                refine wreadyH ?_
                                go_simp
                                clear k1
                                refine hK.out _ _ hHeld (fun hHeld => ?_)
                                clear hK K
                                refine wpAnyH_ready (rs := [13]) (by kernel_rfl) (by simp) ?_
                                refine AllReadyH.cons (o := ⟨some 193, .call { callee := .builtin .append, args := #[(.tmp 186), (.tmp 192)], argTypes := #[32, 32] }, _, _, _, _⟩) rfl (fun K hK => ?_) AllReadyH.nil
                                refine wreadyH (wp_appG_told lnK Tryd.underlying32 infoStH rfl (.tmp 186) (.tmp 192) rfl wm.heap.size (.slice none 0 0) ([] : List Ln) rfl (HXe.out.ln (x := (⟨i, j, []⟩, .slice none 0 0)) (by simp)) _ 1 1 [43 :: x] rfl HSe.out (by simp) HBe.out.size 1 rfl ?_)
                                intro a6 c6 w6 ho hg ht
                                obtain ⟨z1, z2, z3⟩ := HXe.out.slot ho hg ht
                                have hL7 := HXe.out.line ho rfl hg ht
                                rw [HKV.out] at z1 z2 hL7
                                have HB6 := Lib.hid (HBe.out.grown hg HBe.out.size (fun k h => ((HXe.out.ln (x := (⟨i, j, []⟩, .slice none 0 0)) (by simp)).lt k h).1))
                                have HZ3 := Lib.hid z3
                                have HL7 := Lib.hid hL7
                                clear ho hg ht hL7 z3
                                refine hK.out _ _ (HSX.out _ HB6.out) (fun hHeld => ?_)
                                clear hK K
                                refine wpAnyH_take (i := 14) (oi := ⟨some 194, .indexAddr 26 (.tmp 180) (.tmp 181), _, _, _, _⟩) (v := (.pointer (some ⟨g, 0 + V1 * 3, none⟩))) rfl (by kernel_rfl) (by kernel_rfl) (by kernel_rfl) (fun _ _ _ h => h) (Or.inl ⟨by rfl, fun W hW => by go_simp⟩) (by assumption) ?_
                                simp only [Act.put, List.setIfInBounds_toArray, List.set_cons_zero, List.set_cons_succ]
                                refine wpAnyH_take (i := 15) (oi := ⟨some 195, .fieldAddr 55 (.tmp 194) 2, _, _, _, _⟩) (v := (.pointer (some ⟨g, 0 + V1 * 3 + 2, none⟩))) rfl (by kernel_rfl) (by kernel_rfl) (by kernel_rfl) (fun _ _ _ h => h) (Or.inl ⟨by rfl, fun W hW => by go_simp⟩) (by assumption) ?_
                                simp only [Act.put, List.setIfInBounds_toArray, List.set_cons_zero, List.set_cons_succ]
                                refine wpAnyH_ready (rs := [16]) (by kernel_rfl) (by simp) ?_
                                refine AllReadyH.cons (o := ⟨none, .store 32 (.tmp 195) (.tmp 193), _, _, _, _⟩) rfl (fun K hK => ?_) AllReadyH.nil
                                refine wreadyH ?_
                                go_simp
                                obtain ⟨w7, hw7⟩ : ∃ X, w6.setCell ⟨g, V1 * 3 + 2, none⟩ (.slice a6 1 c6) = X := ⟨_, rfl⟩
                                rw [hw7] at HL7
                                have HB7 : Hid (Below wm.heap.size wm w7) := Lib.hid (hw7 ▸ HB6.out.setCell (p := ⟨g, V1 * 3 + 2, none⟩) HZ3.out _)
                                rw [hw7]
                                clear hw7 z1 z2
                                refine hK.out _ _ (HSX.out _ HB7.out) (fun hHeld => ?_)
                                clear hK K
                                refine wpAnyH_done (by kernel_rfl) ?_ _
                                clear hHeld
                                have k14 := HMC.out w7 HB7.out
                                go_wp2
                                go_roundg (N - (n + 1))
                                case measure => have h1 := HI.out; have h2 := HNL.out; omega
                                case rel => exact ⟨n + 1, i, j + 1, true, V ++ [((⟨i, j, [] ++ [43 :: x]⟩ : HkV), Value.slice a6 1 c6)], some ⟨g, 0, none⟩, cr2, by go_num, rfl, by go_num, rfl, by rw [len_snoc, HKV.out, HN1.out], Lib.hid (by have h1 := HI.out; have h2 := HNL.out; omega), HL7, Lib.hid (fun _ => by simp), Lib.hid (by rw [HPE.out]; exact HG2.out), HF2, Lib.hid (by have := HIJ.out; omega), Lib.hid ⟨by rw [len_snoc]; have := HVE.out; omega, fun z hz => by rcases List.mem_append.1 hz with hz | hz; exact Nat.le_succ_of_le (HVX.out z hz); rw [List.mem_singleton.1 hz]; show List.length (_ ++ _) ≤ _; rw [List.length_append]; simp only [List.length_cons, List.length_nil]; omega⟩, HB7⟩
                · have hnN : n = N := by have := HI.out; omega
                  have HE : Hid (V.map (·.1) = Z) := Lib.hid (by have h1 := HGO.out; rw [List.drop_eq_nil_of_le (by rw [HN.out.1, hnN]; exact Nat.le_refl _)] at h1; exact h1)
                  clear hnN
                  go_wp2
                  go_ret2
                  exact ⟨ar, cr, wm.heap.size, V, rfl, HE.out, HRK.out, HBM.out.size, HBM.out.trans (HBW.out.mono HBM.out.size)⟩
#print axioms refHunks_any
end Go.Proofs.YtfoalaoanpbmeaaDoor
