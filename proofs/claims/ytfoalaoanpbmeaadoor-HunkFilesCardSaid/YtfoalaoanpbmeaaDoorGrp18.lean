/-
  Merged: HkApply, HkLawB.
-/
import Derived.Test.YtfoalaoanpbmeaaDoorGrp17
namespace Go.Proofs.YtfoalaoanpbmeaaDoor
open Go.RowKit Go.Lib

/-- What stands through a call of the closure: another block than the builder's, no row of bytes. -/
theorem kept_box {b g : Nat} {w w' : World} {cs : Array Value} {ty : TypeId} (h : w.heap[g]? = some (.cells cs ty (0, 0))) (hk : Lib.OthersKept 5 (some b) w w') (hne : g ≠ b) (ht : ty ≠ 5) : w'.heap[g]? = some (.cells cs ty (0, 0)) :=
  hk g _ h (fun e => hne (Option.some.inj e)) (fun c fz e => by injection e with _ e2 _; exact ht e2)
theorem atg_cut {w : World} {g n c : Nat} {L : List Ln} (h : AtG lnK w (some ⟨g, 0, none⟩) n c L) (k m : Nat) (hk : k ≤ m) (hm : m ≤ n) {pa : Option Addr} (hp : (if c = k then some (⟨g, 0, none⟩ : Addr) else some ⟨g, k, none⟩) = pa) : AtG lnK w pa (m - k) (c - k) ((L.take m).drop k) := by
  by_cases hc : c = k
  · have h1 := h.1
    have h2 := h.2.1
    exact ⟨by rw [List.length_drop, List.length_take]; omega, by omega, by have := h.2.2.1; omega, fun _ _ => trivial, .inl ⟨by omega, by omega⟩⟩
  · rw [if_neg hc] at hp
    subst hp
    exact atg_drop h k m hk hm
theorem string_any (b : Nat) (l : List UInt8) (w : World) (h : Bld b l w) (hb : b ≤ w.heap.size) : Calls Tryd.prog 37 #[.pointer (some ⟨b, 0, none⟩)] w fun e w' => e = .returned (.string (strB l)) ∧ Below b w w' := Tryd.Builder_String_any b b l w h hb
/-- One line put. -/
theorem putOne {b : Nat} {o : List UInt8} {W : World} (hB : Bld b o W) (hb : b < W.heap.size) (l : Ln) (hl : l.length ≤ 100000) (ho : o.length ≤ 10000000000) : Calls Tryd.prog 34 #[.slice (some ⟨W.heap.size, 0, none⟩) 1 1, .pointer (some ⟨b, 0, none⟩)] (W.alloc (.cells #[.string (strB l)] 9)) fun e w' => e = .returned (.tuple #[]) ∧ Bld b (o ++ l) w' ∧ Below b W w' ∧ b < w'.heap.size := by
  have hbl : Below W.heap.size W (W.alloc (.cells #[.string (strB l)] 9)) := (Below.refl _ _).alloc (Nat.le_refl _) _
  refine (putB_any (bld_below hB hbl) (Nat.lt_of_lt_of_le hb hbl.size) (some ⟨W.heap.size, 0, none⟩) 1 1 [l] (oneG W l trivial 9 _ rfl) (fun w' i h0 _ _ g off _ h1 => by omega) (by decide) (fun x hx => by rw [List.mem_singleton.1 hx]; exact hl) ho).mono fun e w' ⟨he, h1, h2, _, h4⟩ => ⟨he, ?_, (hbl.mono (Nat.le_of_lt hb)).trans h2, h4⟩
  simpa using h1
set_option maxRecDepth 100000 in
set_option maxHeartbeats 8000000 in
theorem apply_yes (s : ByteArray) (A : List Ln) (hA : linesF s.data.toList = A) (a5 : Option Addr) (c5 base N : Nat) (V : List (HkV × Value)) (w : World) (hH : HkH w base a5 c5 V) (hNV : V.length = N) (a2 : Nat) (o2 : List UInt8) (hrun : runH A (V.map (·.1)) 0 [] = some (a2, o2)) (ha2 : a2 ≤ A.length) (hs : s.size ≤ 1000) (ho2 : o2.length ≤ 100000) (hG : Gd 8192 1000 (V.map (·.1))) :
    Calls Tryd.prog 18 #[.string s, .slice a5 N c5] w fun e w' => e = .returned (.tuple #[.string (strB (o2 ++ midF A a2 A.length)), .int .i64 0]) ∧ Below w.heap.size w w' := by
  have HSP := Lib.hid (split_some s w (by omega))
  rw [hA] at HSP
  have HH := Lib.hid hH
  have HNV := Lib.hid hNV
  obtain ⟨Z, hZ⟩ : ∃ Z, V.map (·.1) = Z := ⟨_, rfl⟩
  have HV := Lib.hid hZ
  rw [hZ] at hrun hG
  have HRUN : Hid (runH A (Z.drop 0) 0 [] = some (a2, o2)) := Lib.hid hrun
  have HA2 := Lib.hid ha2
  have HO2 := Lib.hid ho2
  have HG := Lib.hid hG
  have HAN : Hid (A.length ≤ 1000) := Lib.hid (by have h1 := lines_len s.data.toList; rw [hA, ← Lib.size_eq] at h1; omega)
  have HAL : Hid (∀ x ∈ A, x.length ≤ 1000) := Lib.hid (fun x hx => by have h1 := lines_small s.data.toList x (hA ▸ hx); rw [← Lib.size_eq] at h1; omega)
  clear hA hH hNV hZ hrun ha2 ho2 hG hs
  go_enter Tryd.func18, Tryd.ntmps18
  go_wp2_with (go_at_call 13; (with_reducible refine HSP.out.mono ?_); rintro e w1 ⟨g1, n, c, rfl, ho, hb⟩; have HL := Lib.hid ho; have HB1 := Lib.hid hb; have HHW := Lib.hid (HH.out.below hb); obtain ⟨b, hbe⟩ : ∃ b, w1.heap.size = b := ⟨_, rfl⟩; have HBE := Lib.hid hbe; obtain ⟨w2, hw2⟩ : ∃ W, w1.alloc (.cells #[.pointer none, .slice none 0 0] 72) = W := ⟨_, rfl⟩; have HBD : Hid (Bld b [] w2) := Lib.hid (by rw [← hw2, ← hbe]; exact Lib.fresh_isBuilder _ _ w1); have HB2 : Hid (Below b w1 w2) := Lib.hid (hw2 ▸ hbe ▸ (Below.refl _ _).alloc (Nat.le_refl _) _); have HBS : Hid (b < w2.heap.size) := Lib.hid (by rw [← hw2, ← hbe]; simp); clear ho hb)
  have HN : Hid (A.length = n ∧ n ≤ c) := Lib.hid ⟨HL.out.1, HL.out.2.1⟩
  have HCL : Hid (∀ W, Below b w1 W → AtG lnK W (some ⟨g1, 0, none⟩) n c A) := Lib.hid (fun W hW => HL.out.below (by rw [HBE.out]; exact hW))
  have HCH : Hid (∀ W, Below b w1 W → HkH W base a5 c5 V) := Lib.hid (fun W hW => HHW.out.below (by rw [HBE.out]; exact hW))
  have HWB : Hid (∀ W, Below b w1 W → Below w.heap.size w W) := Lib.hid (fun W hW => HB1.out.trans (hW.mono (by have := HB1.out.size; have := HBE.out; omega)))
  have hnc : n ≤ c := HN.out.2
  clear hbe
  go_loopg [7, 19] N (fun gk v7 v19 W => ∃ (i at_ : Nat) (o : List UInt8), v19 = .int .i64 (i : Nat) ∧ v7 = .int .i64 (at_ : Nat) ∧ Hid (gk + i = N) ∧ Hid (runH A (Z.drop i) at_ o = some (a2, o2)) ∧ Hid (at_ ≤ n) ∧ Hid (Bld b o W) ∧ Hid (Below b w1 W) ∧ Hid (b < W.heap.size))
  case atStart => exact ⟨0, 0, [], rfl, rfl, Lib.hid rfl, HRUN, Lib.hid (Nat.zero_le _), HBD, HB2, HBS⟩
  case round =>
    clear HRUN HBD HB2 HBS hw2
    obtain ⟨i, at_, o, rfl, rfl, HI, HR, HAT, HBD, HLO, HBS⟩ := hrel
    by_cases hi : (i : Int) < (N : Int)
    · have hiV : i < V.length := by have := HNV.out; omega
      obtain ⟨g, m, a9, c9, rfl, k0, k1', k2, hA9⟩ := (HCH.out w1 (Below.refl _ _)).at_ hiV
      have hiZ : i < Z.length := by rw [← HV.out, List.length_map]; exact hiV
      have hz1 : (gd V i).1 = Z.getD i default := by
        rw [← HV.out]; unfold gd; simp [List.getD_eq_getElem?_getD, hiV]
      obtain ⟨⟨f, t, ls⟩, hy⟩ : ∃ y, Z.getD i default = y := ⟨_, rfl⟩
      have hsm := HG.out.2 _ (getD_mem (d := default) hiZ)
      have hdr : Z.drop i = ⟨f, t, ls⟩ :: Z.drop (i + 1) := by rw [List.drop_eq_getElem_cons hiZ, ← hy, List.getD_eq_getElem?_getD, List.getElem?_eq_getElem hiZ]; rfl
      have hr := HR.out
      rw [hdr] at hr
      have hr' : (if at_ ≤ f ∧ f ≤ A.length then (appL A ls f (o ++ midF A at_ f)).bind (fun z => runH A (Z.drop (i + 1)) z.1 z.2) else none) = some (a2, o2) := hr
      have hcond : at_ ≤ f ∧ f ≤ A.length := by
        by_cases h : at_ ≤ f ∧ f ≤ A.length
        · exact h
        · rw [if_neg h] at hr'; cases hr'
      rw [if_pos hcond] at hr'
      obtain ⟨⟨a3, o3⟩, hap⟩ : ∃ z, appL A ls f (o ++ midF A at_ f) = some z := by
        cases h : appL A ls f (o ++ midF A at_ f) with
        | none => rw [h] at hr'; cases hr'
        | some z => exact ⟨z, rfl⟩
      rw [hap] at hr'
      have hr2 : runH A (Z.drop (i + 1)) a3 o3 = some (a2, o2) := hr'
      rw [hz1, hy] at k0 k1' hA9
      have hlo1 : Below w1.heap.size w1 wr := by rw [HBE.out]; exact HLO.out
      have g0 := (hlo1.cell (World.block_lt_of_cell? _ _ k0)).trans k0
      have g1' := (hlo1.cell (World.block_lt_of_cell? _ _ k1')).trans k1'
      have g2 := (hlo1.cell (World.block_lt_of_cell? _ _ k2)).trans k2
      have HA9 : Hid (∀ W, Below b w1 W → AtG lnK W a9 m c9 ls) := Lib.hid (fun W hW => AtG.below hA9 (by rw [HBE.out]; exact hW))
      have HM9 : Hid (ls.length = m) := Lib.hid hA9.1
      rw [hy] at hsm
      have HSY : Hid (ls.length ≤ 8192 ∧ (∀ x ∈ ls, x.length ≤ 1001)) := Lib.hid ⟨hsm.2.2.1, hsm.2.2.2⟩
      have HAP := Lib.hid hap
      have HR2 := Lib.hid hr2
      have HLN3 : Hid (o3.length ≤ 100000) := Lib.hid (Nat.le_trans (runH_len hr2) HO2.out)
      have HLN1 : Hid (o.length ≤ 100000) := Lib.hid (by have h1 := appL_len hap; rw [List.length_append] at h1; have h2 := HLN3.out; simp only at h1; omega)
      have HC : Hid (at_ ≤ f ∧ f ≤ n) := Lib.hid ⟨hcond.1, by have := HN.out.1; omega⟩
      obtain ⟨wC, hwC⟩ : ∃ W, wr.alloc (.cells #[.int .i64 (f : Nat), .int .i64 (t : Nat), .slice a9 m c9] HunkT) = W := ⟨_, rfl⟩
      have hbC : Below wr.heap.size wr wC := hwC ▸ (Below.refl _ _).alloc (Nat.le_refl _) _
      have eC : wC.heap[wr.heap.size]? = some (.cells #[.int .i64 (f : Nat), .int .i64 (t : Nat), .slice a9 m c9] HunkT (0, 0)) := hwC ▸ heap_alloc_new wr _
      have HEC := Lib.hid eC
      have l0 : wC.cell? ⟨wr.heap.size, 0, none⟩ = some (.int .i64 (f : Nat)) := by rw [cell_of_row _ _ _ _ _ _ eC]; rfl
      have HBC := Lib.hid (bld_below HBD.out hbC)
      have HLC := Lib.hid (HLO.out.trans (hbC.mono (Nat.le_of_lt HBS.out)))
      have HSC := Lib.hid (Nat.lt_of_lt_of_le HBS.out hbC.size)
      have c1 : decide ((f : Int) < (at_ : Int)) = false := decide_eq_false (by have := HC.out.1; omega)
      have c1n : decide (f < at_) = false := decide_eq_false (by have := HC.out.1; omega)
      have c2 : decide ((n : Int) < (f : Int)) = false := decide_eq_false (by have := HC.out.2; omega)
      have c2n : decide (n < f) = false := decide_eq_false (by have := HC.out.2; omega)
      have s0 : (0 : Int) ≤ (at_ : Int) := by omega
      have s1 : (at_ : Int) ≤ (f : Int) := by have := HC.out.1; omega
      have s2 : (f : Int) ≤ (c : Int) := by have := HC.out.2; omega
      have s1n : at_ ≤ f := HC.out.1
      have s2n : f ≤ c := by have := HC.out.2; omega
      have HIN : Hid (i < N) := Lib.hid (by omega)
      have hi0 : (0 : Int) ≤ (i : Int) := by omega
      have W0 : IntKind.i64.wrap ((i : Int) + 1) = (i : Int) + 1 := IntWalk.i64_in _ (by have h1 := HG.out.1; have h2 : Z.length ≤ 8192 := h1; omega)
      clear hiV hz1 hsm hdr hr hr' hcond hap hr2 hA9 hiZ hy hbC eC k0 k1' k2 hlo1
      obtain ⟨pa, hpa⟩ : ∃ p, (if c = at_ then some (⟨g1, 0, none⟩ : Addr) else some ⟨g1, at_, none⟩) = p := ⟨_, rfl⟩
      have HPC := Lib.hid (fun (W : World) (hW : Below b w1 W) => atg_cut (HCL.out W hW) at_ f HC.out.1 HC.out.2 hpa)
      have HPUT := Lib.hid (putB_any HBC.out HSC.out pa (f - at_) (c - at_) ((A.take f).drop at_) (HPC.out wC HLC.out) (fun w' q _ hb2 _ g off e hq => by subst e; exact ln_cell (HPC.out w' (HLC.out.trans hb2)) q hq) (by have h1 := HC.out; have h2 := HN.out.1; have h3 := HAN.out; omega) (fun x hx => Nat.le_trans (HAL.out x (List.mem_of_mem_take (List.mem_of_mem_drop hx))) (by decide)) (by have := HLN1.out; omega))
      go_wp2_with (go_at_call 34; (with_reducible refine HPUT.out.mono ?_); rintro e w5 ⟨rfl, hb5, hlo5, hk5, hs5⟩; have HB5 := Lib.hid hb5; have HL5 := Lib.hid (HLC.out.trans hlo5); have HS5 := Lib.hid hs5; have e5 := kept_box HEC.out hk5 (Nat.ne_of_gt HBS.out) (by decide); have l0' : w5.cell? ⟨wr.heap.size, 0, none⟩ = some (.int .i64 (f : Nat)) := (by rw [cell_of_row _ _ _ _ _ _ e5]; rfl); have l2' : w5.cell? ⟨wr.heap.size, 2, none⟩ = some (.slice a9 m c9) := (by rw [cell_of_row _ _ _ _ _ _ e5]; rfl); clear hb5 hlo5 hk5 hs5 e5)
      have HAP0 : Hid (appL A (ls.drop 0) f (o ++ midF A at_ f) = some (a3, o3)) := HAP
      have HB5' : Hid (Bld b (o ++ midF A at_ f) w5) := HB5
      clear hpa HPC HPUT HBC HSC HLC c1 c1n c2 c2n s0 s1 s2 s1n s2n l0 l0' l2' HEC hwC g0 g1' g2
      go_loopg [7, 46] m (fun gk v7 v46 W => ∃ (k at2 : Nat) (o5 : List UInt8), v46 = .int .i64 (k : Nat) ∧ v7 = .int .i64 (at2 : Nat) ∧ Hid (gk + k = m) ∧ Hid (appL A (ls.drop k) at2 o5 = some (a3, o3)) ∧ Hid (at2 ≤ n) ∧ Hid (Bld b o5 W) ∧ Hid (Below b w1 W) ∧ Hid (b < W.heap.size))
      case atStart => exact ⟨0, f, _, rfl, rfl, Lib.hid rfl, HAP0, Lib.hid HC.out.2, HB5', HL5, HS5⟩
      case round =>
        clear HAP0 HB5' HB5 HL5 HS5
        obtain ⟨k, at2, o5, rfl, rfl, HKI, HAI, HA2I, HBI, HLI, HSI⟩ := hrel
        by_cases hk : (k : Int) < (m : Int)
        · have HKM : Hid (k < m) := Lib.hid (by omega)
          have hA9 := HA9.out wr HLI.out
          obtain ⟨b9, off9, rfl⟩ := hA9.some_ (Nat.lt_of_le_of_lt (Nat.zero_le _) HKM.out)
          obtain ⟨x, hx⟩ : ∃ x, ls.getD k [] = x := ⟨_, rfl⟩
          have hkl : k < ls.length := by have := HM9.out; omega
          have hcell := ln_cell hA9 k HKM.out
          rw [hx] at hcell
          have hdr : ls.drop k = x :: ls.drop (k + 1) := by rw [List.drop_eq_getElem_cons hkl, ← hx, List.getD_eq_getElem?_getD, List.getElem?_eq_getElem hkl]; rfl
          have hap := HAI.out
          rw [hdr] at hap
          have hap' : (appC A x at2 o5).bind (fun y => appL A (ls.drop (k + 1)) y.1 y.2) = some (a3, o3) := hap
          obtain ⟨⟨a6, o6⟩, hc⟩ : ∃ z, appC A x at2 o5 = some z := by
            cases h : appC A x at2 o5 with
            | none => rw [h] at hap'; cases hap'
            | some z => exact ⟨z, rfl⟩
          rw [hc] at hap'
          have hnx : appL A (ls.drop (k + 1)) a6 o6 = some (a3, o3) := hap'
          have HXL : Hid (x.length ≤ 1001) := Lib.hid (HSY.out.2 x (by rw [← hx]; exact getD_mem hkl))
          have HOL : Hid (o5.length ≤ 100000) := Lib.hid (by have h1 := appL_len HAI.out; have h2 := HLN3.out; simp only at h1; omega)
          obtain ⟨u, l, rfl⟩ : ∃ u l, x = u :: l := by cases x with | nil => cases hc | cons u l => exact ⟨u, l, rfl⟩
          have HLL : Hid (l.length ≤ 100000) := Lib.hid (by have h1 := HXL.out; rw [List.length_cons] at h1; omega)
          have hsz : 0 < (strB (u :: l)).size := by rw [strB_size]; simp
          have hszI : (1 : Int) ≤ ((strB (u :: l)).size : Int) := by omega
          have hext := ext_tail u l
          have hh : headB (u :: l) = u := rfl
          have hk0 : (0 : Int) ≤ (k : Int) := by omega
          have W1 : IntKind.i64.wrap ((k : Int) + 1) = (k : Int) + 1 := IntWalk.i64_in _ (by have h1 := HM9.out; have h2 := HSY.out.1; omega)
          have W2 : IntKind.i64.wrap ((at2 : Int) + 1) = (at2 : Int) + 1 := IntWalk.i64_in _ (by have h1 := HA2I.out; have h2 := HN.out.1; have h3 := HAN.out; omega)
          have t0 : (0 : Int) ≤ (at2 : Int) := by omega
          have t1 : (at2 : Int) ≤ (n : Int) := by have := HA2I.out; omega
          have t2 : (n : Int) ≤ (c : Int) := by omega
          have t1n : at2 ≤ n := HA2I.out
          obtain ⟨pb, hpb⟩ : ∃ p, (if c = at2 then some (⟨g1, 0, none⟩ : Addr) else some ⟨g1, at2, none⟩) = p := ⟨_, rfl⟩
          clear hA9 hx hkl hdr hap hap'
          by_cases h43 : u = 43
          · obtain ⟨z1, z2⟩ := byte_is hsz 43 43 rfl true (by rw [hh, h43]; rfl)
            obtain ⟨z5, z6⟩ := byte_is hsz 45 45 rfl false (by rw [hh, h43]; rfl)
            unfold appC at hc
            dsimp only at hc
            rw [if_pos h43] at hc
            obtain ⟨rfl, rfl⟩ : at2 = a6 ∧ o5 ++ l = o6 := by have := Option.some.inj hc; exact ⟨congrArg (·.1) this, congrArg (·.2) this⟩
            have HNX := Lib.hid hnx
            have HU := Lib.hid h43
            clear hc hnx h43 hh
            go_wp2_with (first
              | (go_at_call 36; (with_reducible refine (fits_yes u l pb (n - at2) (c - at2) wr (.inl HU.out)).mono ?_); rintro e wq ⟨rfl, q, hwq⟩; have hbq : Below wr.heap.size wr wq := (by rw [hwq]; exact below_drewH (Below.refl _ _) q); have HBQ := Lib.hid (bld_below HBI.out hbq); have HLQ := Lib.hid (HLI.out.trans (hbq.mono (Nat.le_of_lt HSI.out))); have HSQ := Lib.hid (Nat.lt_of_lt_of_le HSI.out hbq.size); clear hbq hwq)
              | (go_at_call 34; (with_reducible refine (putOne HBQ.out HSQ.out l HLL.out (by have := HOL.out; omega)).mono ?_); rintro e w6 ⟨rfl, hb6, hlo6, hs6⟩; have HB6 := Lib.hid hb6; have HL6 := Lib.hid (HLQ.out.trans hlo6); have HS6 := Lib.hid hs6; clear hb6 hlo6 hs6))
            go_roundg (gk - 1)
            case measure => have h1 := HKI.out; have h2 := HKM.out; omega
            case rel => exact ⟨k + 1, at2, _, by go_num, rfl, Lib.hid (by have h1 := HKI.out; have h2 := HKM.out; omega), HNX, HA2I, HB6, HL6, HS6⟩
          · unfold appC at hc
            dsimp only at hc
            rw [if_neg h43] at hc
            have hcd : at2 < A.length ∧ A.getD at2 [] = l := by
              by_cases h : at2 < A.length ∧ A.getD at2 [] = l
              · exact h
              · rw [if_neg h] at hc; cases hc
            rw [if_pos hcd] at hc
            have HLT : Hid (at2 + 1 ≤ n) := Lib.hid (by have := HN.out.1; omega)
            have hpn : pb = some ⟨g1, at2, none⟩ := by rw [← hpb, if_neg (by have := HLT.out; omega)]
            have HCX : Hid (∃ g off, pb = some ⟨g, off, none⟩ ∧ wr.cell? ⟨g, off, none⟩ = some (.string (strB l))) := Lib.hid ⟨g1, at2, hpn, by have h1 := ln_cell (HCL.out wr HLI.out) at2 HLT.out; rw [Nat.zero_add, hcd.2] at h1; exact h1⟩
            have HPO : Hid (0 < n - at2) := Lib.hid (by have := HLT.out; omega)
            obtain ⟨z1, z2⟩ := byte_is hsz 43 43 rfl false (by rw [hh, beq_eq_false_iff_ne]; exact h43)
            by_cases h32 : u = 32
            · obtain ⟨z5, z6⟩ := byte_is hsz 45 45 rfl false (by rw [hh, h32]; rfl)
              rw [if_pos h32] at hc
              obtain ⟨rfl, rfl⟩ : at2 + 1 = a6 ∧ o5 ++ l = o6 := by have := Option.some.inj hc; exact ⟨congrArg (·.1) this, congrArg (·.2) this⟩
              have HNX := Lib.hid hnx
              have HU := Lib.hid h32
              clear hc hnx h43 h32 hh hcd hpn
              go_wp2_with (first
                | (go_at_call 36; (with_reducible refine (fits_yes u l pb (n - at2) (c - at2) wr (.inr ⟨.inl HU.out, HPO.out, HCX.out⟩)).mono ?_); rintro e wq ⟨rfl, q, hwq⟩; have hbq : Below wr.heap.size wr wq := (by rw [hwq]; exact below_drewH (Below.refl _ _) q); have HBQ := Lib.hid (bld_below HBI.out hbq); have HLQ := Lib.hid (HLI.out.trans (hbq.mono (Nat.le_of_lt HSI.out))); have HSQ := Lib.hid (Nat.lt_of_lt_of_le HSI.out hbq.size); clear hbq hwq)
                | (go_at_call 34; (with_reducible refine (putOne HBQ.out HSQ.out l HLL.out (by have := HOL.out; omega)).mono ?_); rintro e w6 ⟨rfl, hb6, hlo6, hs6⟩; have HB6 := Lib.hid hb6; have HL6 := Lib.hid (HLQ.out.trans hlo6); have HS6 := Lib.hid hs6; clear hb6 hlo6 hs6))
              go_roundg (gk - 1)
              case measure => have h1 := HKI.out; have h2 := HKM.out; omega
              case rel => exact ⟨k + 1, at2 + 1, _, by go_num, by go_num, Lib.hid (by have h1 := HKI.out; have h2 := HKM.out; omega), HNX, Lib.hid HLT.out, HB6, HL6, HS6⟩
            · rw [if_neg h32] at hc
              have h45 : u = 45 := by
                by_cases h : u = 45
                · exact h
                · rw [if_neg h] at hc; cases hc
              obtain ⟨z5, z6⟩ := byte_is hsz 45 45 rfl true (by rw [hh, h45]; rfl)
              rw [if_pos h45] at hc
              obtain ⟨rfl, rfl⟩ : at2 + 1 = a6 ∧ o5 = o6 := by have := Option.some.inj hc; exact ⟨congrArg (·.1) this, congrArg (·.2) this⟩
              have HNX := Lib.hid hnx
              have HU := Lib.hid h45
              clear hc hnx h43 h32 h45 hh hcd hpn
              go_wp2_with (go_at_call 36; (with_reducible refine (fits_yes u l pb (n - at2) (c - at2) wr (.inr ⟨.inr HU.out, HPO.out, HCX.out⟩)).mono ?_); rintro e wq ⟨rfl, q, hwq⟩; have hbq : Below wr.heap.size wr wq := (by rw [hwq]; exact below_drewH (Below.refl _ _) q); have HBQ := Lib.hid (bld_below HBI.out hbq); have HLQ := Lib.hid (HLI.out.trans (hbq.mono (Nat.le_of_lt HSI.out))); have HSQ := Lib.hid (Nat.lt_of_lt_of_le HSI.out hbq.size); clear hbq hwq)
              go_roundg (gk - 1)
              case measure => have h1 := HKI.out; have h2 := HKM.out; omega
              case rel => exact ⟨k + 1, at2 + 1, _, by go_num, by go_num, Lib.hid (by have h1 := HKI.out; have h2 := HKM.out; omega), HNX, Lib.hid HLT.out, HBQ, HLQ, HSQ⟩
        · have hkm : k = m := by have := HKI.out; omega
          have hap := HAI.out
          rw [List.drop_eq_nil_of_le (by rw [HM9.out, hkm]; exact Nat.le_refl _)] at hap
          obtain ⟨rfl, rfl⟩ : at2 = a3 ∧ o5 = o3 := by have := Option.some.inj hap; exact ⟨congrArg (·.1) this, congrArg (·.2) this⟩
          clear hap hkm
          go_wp2
          go_roundg (N - (i + 1))
          case measure => have h1 := HI.out; have h2 := HIN.out; omega
          case rel => exact ⟨i + 1, at2, o5, by go_num, rfl, Lib.hid (by have h1 := HI.out; have h2 := HIN.out; omega), HR2, HA2I, HBI, HLI, HSI⟩
    · have hiN : i = N := by have := HI.out; omega
      have hr := HR.out
      rw [List.drop_eq_nil_of_le (by rw [← HV.out, List.length_map, HNV.out, hiN]; exact Nat.le_refl _)] at hr
      obtain ⟨rfl, rfl⟩ : at_ = a2 ∧ o = o2 := by have := Option.some.inj hr; exact ⟨congrArg (·.1) this, congrArg (·.2) this⟩
      have t0 : (0 : Int) ≤ (at_ : Int) := by omega
      have t1 : (at_ : Int) ≤ (n : Int) := by have := HAT.out; omega
      have t2 : (n : Int) ≤ (c : Int) := by omega
      have t1n : at_ ≤ n := HAT.out
      obtain ⟨pb, hpb⟩ : ∃ p, (if c = at_ then some (⟨g1, 0, none⟩ : Addr) else some ⟨g1, at_, none⟩) = p := ⟨_, rfl⟩
      have HPC := Lib.hid (fun (W : World) (hW : Below b w1 W) => atg_cut (HCL.out W hW) at_ n HAT.out (Nat.le_refl _) hpb)
      have HPUT := Lib.hid (putB_any HBD.out HBS.out pb (n - at_) (c - at_) ((A.take n).drop at_) (HPC.out wr HLO.out) (fun w' q _ hb2 _ g off e hq => by subst e; exact ln_cell (HPC.out w' (HLO.out.trans hb2)) q hq) (by have h2 := HN.out.1; have h3 := HAN.out; omega) (fun x hx => Nat.le_trans (HAL.out x (List.mem_of_mem_take (List.mem_of_mem_drop hx))) (by decide)) (by have := HO2.out; omega))
      have HE : Hid (o ++ ((A.take n).drop at_).flatten = o ++ midF A at_ A.length) := Lib.hid (by unfold midF; rw [HN.out.1])
      clear hr hiN
      go_wp2_with (first
        | (go_at_call 34; (with_reducible refine HPUT.out.mono ?_); rintro e w5 ⟨rfl, hb5, hlo5, _, hs5⟩; have HB5 := Lib.hid hb5; have HL5 := Lib.hid (HLO.out.trans hlo5); have HS5 := Lib.hid hs5; clear hb5 hlo5 hs5)
        | (go_at_call 37; (with_reducible refine (string_any b _ w5 HB5.out (Nat.le_of_lt HS5.out)).mono ?_); rintro e w6 ⟨rfl, hb6⟩; have HL6 := Lib.hid (HL5.out.trans hb6); clear hb6))
      rw [HE.out]
      go_ret2
      exact ⟨rfl, HWB.out w6 HL6.out⟩
#print axioms apply_yes
end Go.Proofs.YtfoalaoanpbmeaaDoor

namespace Go.Proofs.YtfoalaoanpbmeaaDoor
open Go.RowKit Go.Lib

theorem top_cases {s t : Ln} {Z : List HkV} {r : Nat} (h : topF s t = (Z, r)) : (r = 0 ∧ Z = hunksF (linesF s) (linesF t)) ∨ (r ≠ 0 ∧ Z = []) := by
  unfold topF at h
  split at h
  · split at h
    · cases h; exact .inr ⟨by decide, rfl⟩
    · cases h; exact .inl ⟨rfl, rfl⟩
  · cases h; exact .inr ⟨by decide, rfl⟩
set_option maxRecDepth 100000 in
set_option maxHeartbeats 4000000 in
theorem hunkBack_any (s t : ByteArray) (w : World) (hT : HTabs w) :
    Calls Tryd.prog 5 #[.string s, .string t] w fun e w' => e = .returned (.bool true) ∧ Below w.heap.size w w' := by
  have HT := Lib.hid hT
  clear hT
  by_cases hbig : (1000 : Int) < (s.size : Int)
  · have d1 : decide ((1000 : Int) < (s.size : Int)) = true := decide_eq_true hbig
    have d1n : decide (1000 < s.size) = true := decide_eq_true (by omega)
    clear hbig
    go_enter Tryd.func5, Tryd.ntmps5
    go_wp2
    go_ret
    exact ⟨rfl, Below.refl _ _⟩
  · have d1 : decide ((1000 : Int) < (s.size : Int)) = false := decide_eq_false hbig
    have d1n : decide (1000 < s.size) = false := decide_eq_false (by omega)
    by_cases hbig2 : (1000 : Int) < (t.size : Int)
    · have d2 : decide ((1000 : Int) < (t.size : Int)) = true := decide_eq_true hbig2
      have d2n : decide (1000 < t.size) = true := decide_eq_true (by omega)
      clear hbig hbig2
      go_enter Tryd.func5, Tryd.ntmps5
      go_wp2
      go_ret
      exact ⟨rfl, Below.refl _ _⟩
    · have d2 : decide ((1000 : Int) < (t.size : Int)) = false := decide_eq_false hbig2
      have d2n : decide (1000 < t.size) = false := decide_eq_false (by omega)
      have HTOP := Lib.hid (top_any s t w (by omega) (by omega) HT.out.tabs)
      obtain ⟨⟨Z, r⟩, hz⟩ : ∃ z, topF s.data.toList t.data.toList = z := ⟨_, rfl⟩
      have HSM : Hid (Gd 8192 1000 Z) := Lib.hid (by have h1 := top_small s.data.toList t.data.toList 1000 (by rw [← Lib.size_eq]; omega) (by rw [← Lib.size_eq]; omega); rw [hz] at h1; exact h1)
      have HSZ : Hid (s.size ≤ 1000 ∧ t.size ≤ 1000) := Lib.hid ⟨by omega, by omega⟩
      rw [hz] at HTOP
      have HZ := Lib.hid hz
      clear hbig hbig2 hz
      rcases top_cases HZ.out with ⟨rfl, hZe⟩ | ⟨hr, rfl⟩
      · obtain ⟨a2, o2, hrun, ha2, ho2⟩ := hunks_back (linesF s.data.toList) (linesF t.data.toList)
        rw [← hZe] at hrun
        rw [lines_flat] at ho2
        have HRUN := Lib.hid hrun
        have HA2 := Lib.hid ha2
        have HO2 : Hid (strB (o2 ++ midF (linesF s.data.toList) a2 (linesF s.data.toList).length) = t) := Lib.hid (by rw [ho2]; exact strB_of t)
        have HOL : Hid (o2.length ≤ 100000) := Lib.hid (by have h1 := congrArg List.length ho2; rw [List.length_append, ← Lib.size_eq] at h1; have h2 := HSZ.out.2; omega)
        obtain ⟨q, hq⟩ : ∃ q, (s.toList == t.toList) = q := ⟨_, rfl⟩
        have HNQ : Hid (((Z.length : Int) == 0) = q) := Lib.hid (by
          rw [← hq, Bool.eq_iff_iff, beq_iff_eq, beq_iff_eq, Lib.toList_data, Lib.toList_data]
          constructor
          · intro h
            have h1 : Z = [] := List.length_eq_zero_iff.1 (by omega)
            rw [h1] at hZe
            have h2 := hunks_nil hZe.symm
            rw [lines_flat, lines_flat] at h2; exact h2
          · intro h
            rw [hZe, h, hunks_same]; rfl)
        clear hZe hrun ha2 ho2
        go_enter Tryd.func5, Tryd.ntmps5
        go_wp2_with (first
          | (go_at_call 8; (with_reducible refine HTOP.out.mono ?_); rintro e w1 ⟨a5, c5, base, V, rfl, hv, hh, _, hb⟩; have hv' : V.map (·.1) = Z := hv; have HV := Lib.hid hv'; have HH := Lib.hid hh; have HB := Lib.hid hb; obtain ⟨N, hN⟩ : ∃ N, V.length = N := ⟨_, rfl⟩; rw [hN]; have HN := Lib.hid hN; have hnq : ((N : Int) == 0) = q := (by have h1 := HNQ.out; rw [← hv', List.length_map, hN] at h1; exact h1); clear hv hv' hh hb hN)
          | (go_at_call 18; (with_reducible refine (apply_yes s _ rfl a5 c5 base N V w1 HH.out HN.out a2 o2 (by rw [HV.out]; exact HRUN.out) HA2.out HSZ.out.1 HOL.out (by rw [HV.out]; exact HSM.out)).mono ?_); rintro e w2 ⟨rfl, hb⟩; rw [HO2.out]; have HB2 := Lib.hid (HB.out.trans (hb.mono HB.out.size)); clear hb; cases q)
          | (go_at_call 15; (with_reducible refine (awake_any w2 (HT.out.below HB2.out)).mono ?_); rintro e w5 ⟨rfl, hb⟩; have HB5 := Lib.hid (HB2.out.trans (hb.mono HB2.out.size)); clear hb))
        all_goals (go_ret; exact ⟨rfl, HB5.out⟩)
      · have hr2 : ¬ ((r : Int) = 0) := by omega
        have hr1 : ((r : Int) == 0) = false := by rw [beq_eq_false_iff_ne]; exact hr2
        go_enter Tryd.func5, Tryd.ntmps5
        go_wp2_with (first
          | (go_at_call 8; (with_reducible refine HTOP.out.mono ?_); rintro e w1 ⟨a5, c5, base, V, rfl, hv, hh, _, hb⟩; (obtain rfl : V = [] := (by simpa using hv)); have HB := Lib.hid hb; clear hv hh hb)
          | (go_at_call 15; (with_reducible refine (awake_any w1 (HT.out.below HB.out)).mono ?_); rintro e w5 ⟨rfl, hb⟩; have HB5 := Lib.hid (HB.out.trans (hb.mono HB.out.size)); clear hb))
        go_ret
        exact ⟨rfl, HB5.out⟩
#print axioms hunkBack_any
end Go.Proofs.YtfoalaoanpbmeaaDoor
