/-
  The walk of part.
-/
import Derived.Test.YtheigemfbcgjcaaDlPart
import Derived.Deep.LoopGhost
namespace Go.Proofs.Ytheigemfbcgjcaa
open Go.RowKit

theorem grp_one {b : List UInt8} {K : Nat} {P0 : List Nat} {f : Nat} (h : f < P0.length) : Grp b K P0 f (f + 1) := ⟨by omega, by omega, fun i h1 h2 => by rw [show i = f from by omega]⟩
theorem grp_next {b : List UInt8} {K : Nat} {P0 : List Nat} {f t : Nat} (h : Grp b K P0 f t) (ht : t < P0.length) (he : keyB b K (P0.getD t 0) = keyB b K (P0.getD f 0)) : Grp b K P0 f (t + 1) :=
  ⟨by have := h.lt; omega, by omega, fun i h1 h2 => by
    by_cases hi : i = t
    · rw [hi]; exact he
    · exact h.same i h1 (by omega)⟩
theorem PartInv.mem {b : List UInt8} {K n : Nat} {P0 P : List Nat} {f : Nat} {met : Bool} (h : PartInv b K P0 f P met) (hm : ∀ x ∈ P0, x < n) : ∀ x ∈ P, x < n := fun x hx => by
  rw [← List.take_append_drop f P] at hx
  rcases List.mem_append.1 hx with hx | hx
  · exact hm x (List.mem_of_mem_take (h.perm.mem_iff.1 hx))
  · rw [h.rest] at hx; exact hm x (List.mem_of_mem_drop hx)
theorem getD_lt {P : List Nat} {n i : Nat} (hm : ∀ x ∈ P, x < n) (hi : i < P.length) : P.getD i 0 < n := by
  rw [List.getD_eq_getElem?_getD, List.getElem?_eq_getElem hi]
  exact hm _ (List.getElem_mem hi)
theorem nodup_neP {P : List Nat} (h : P.Nodup) {i j : Nat} (hi : i < P.length) (hj : j < P.length) (hij : i < j) : P.getD i 0 ≠ P.getD j 0 := by
  rw [List.getD_eq_getElem?_getD, List.getD_eq_getElem?_getD, List.getElem?_eq_getElem hi, List.getElem?_eq_getElem hj]
  intro e
  have e1 : P[i] = P[j] := by simpa using e
  exact (List.pairwise_iff_getElem.1 h i j hi hj hij) e1
/-- Two places of one rank: not all is known yet. -/
theorem key_small {b : List UInt8} {K n : Nat} {P0 : List Nat} {f t : Nat} (h : Grp b K P0 f t) (ht : f + 1 < t) (hn : P0.Nodup) (hm : ∀ x ∈ P0, x < n) (hb : b.length = n) : K < n := by
  have hle := h.le
  rcases Nat.lt_or_ge K n with h1 | h1
  · exact h1
  · exact absurd (key_long (by omega) (by rw [hb]; exact getD_lt hm (by omega)) (by rw [hb]; exact getD_lt hm (by omega)) (h.same (f + 1) (by omega) ht)).symm (nodup_neP hn (by omega) (by omega) (by omega))
set_option maxRecDepth 100000 in
set_option maxHeartbeats 4000000 in
theorem part_any (gs gp gr gm n K : Nat) (b : List UInt8) (P0 R M : List Nat) (w : World) (h : Srt w gs gp gr gm n P0 K R M) (hb : b.length = n) (hm : ∀ x ∈ P0, x < n) (hs : P0.Pairwise (leK b K)) (hnd : P0.Nodup) (hR : RankOk b K R) (hn : n ≤ 1000000) (hK1 : 1 ≤ K) (hK : K ≤ 2000000) :
    Calls Try.prog 45 #[.pointer (some ⟨gs, 0, none⟩)] w (PartIs b gs gp gr gm n K P0 R M w) := by
  obtain ⟨w1, hw1⟩ : ∃ W, w.alloc (.cells #[.pointer (some ⟨gs, 0, none⟩)] 72) = W := ⟨_, rfl⟩
  have hb1 : Below w.heap.size w w1 := hw1 ▸ (Below.refl _ _).alloc (Nat.le_refl _) _
  have HS1 := Lib.hid (h.below hb1)
  have HC1 : Hid (w1.cell? ⟨w.heap.size, 0, none⟩ = some (.pointer (some ⟨gs, 0, none⟩))) := Lib.hid (by rw [← hw1]; simp)
  have HG1 : Hid (w.grownBy w1 (some gp)) := Lib.hid ⟨hb1.os, hb1.tape, hb1.output, hb1.size, fun k hk _ => hb1.block k hk⟩
  have HNX : Hid (w.heap.size ≠ gp) := Lib.hid (by have := h.pl.2.1; omega)
  have HLEN : Hid (P0.length = n) := Lib.hid h.pl.1
  have HB := Lib.hid hb
  have HM := Lib.hid hm
  have HS := Lib.hid hs
  have HND := Lib.hid hnd
  have HRK := Lib.hid hR
  have HK1 := Lib.hid hK1
  have HK := Lib.hid hK
  have HN := Lib.hid hn
  have HW1 := Lib.hid hw1
  have hnI : (n : Int) ≤ 1000000 := by omega
  have hn0 : (0 : Int) ≤ (n : Int) := by omega
  clear h hb hm hs hnd hR hn hK1 hK hw1 hb1
  go_enter Try.func45, Try.ntmps45
  go_wp2
  rw [HW1.out]
  go_loopg [3, 4] n (fun g v3 v4 W => ∃ (f : Nat) (met : Bool) (P : List Nat), v3 = .bool met ∧ v4 = .int .i64 f ∧ g + f = n ∧ Hid (PartInv b K P0 f P met) ∧ Hid (met = true → K < n) ∧ Hid (Srt W gs gp gr gm n P K R M) ∧ Hid (W.cell? ⟨w.heap.size, 0, none⟩ = some (.pointer (some ⟨gs, 0, none⟩))) ∧ Hid (w.grownBy W (some gp)))
  case atStart => exact ⟨0, false, P0, rfl, rfl, rfl, Lib.hid (PartInv.start b K P0), Lib.hid (fun h => by cases h), HS1, HC1, HG1⟩
  case round =>
    obtain ⟨f, met, P, rfl, rfl, hg, HPI, HKT, HSR, HCX, HGW⟩ := hrel
    have HG := Lib.hid hg
    have hf0 : (0 : Int) ≤ (f : Int) := by omega
    have cx := HCX.out
    have c0 := HSR.out.c0
    unfold pS at c0
    by_cases hfn : (f : Int) < (n : Int)
    · have HF := Lib.hid (show f < n by omega)
      have W1 : IntKind.i64.wrap ((f : Int) + 1) = (f : Int) + 1 := IntWalk.i64_in _ (by omega)
      clear hg
      go_wp2
      have HPF := Lib.hid (getD_lt (HPI.out.mem HM.out) (i := f) (by rw [HPI.out.length, HLEN.out]; exact HF.out))
      go_loopg [5] (n - (f + 1)) (fun g2 v5 W2 => ∃ (t : Nat), v5 = .int .i64 t ∧ g2 + t = n ∧ Hid (Grp b K P0 f t) ∧ Hid (∃ q, W2 = wr.drewN q))
      case atStart => exact ⟨f + 1, by go_num, by have := HF.out; have := HG.out; omega, Lib.hid (grp_one (by rw [HLEN.out]; exact HF.out)), Lib.hid ⟨0, rfl⟩⟩
      case round =>
        obtain ⟨t, rfl, hg2, HGR, HQ⟩ := hrel
        obtain ⟨q0, hq0⟩ := HQ.out
        subst hq0
        have HG2 := Lib.hid hg2
        have ht0 : (0 : Int) ≤ (t : Int) := by omega
        have hftI : (f : Int) < (t : Int) := by have := HGR.out.lt; omega
        have c2' : wr.cell? ⟨gs, 2, none⟩ = some (.slice (some ⟨gr, 0, none⟩) n n) := HSR.out.c2
        by_cases htn : (t : Int) < (n : Int)
        · have HT := Lib.hid (show t < n by omega)
          obtain ⟨x, hx⟩ : ∃ x, P.getD t 0 = x := ⟨_, rfl⟩
          obtain ⟨y, hy⟩ : ∃ y, P.getD f 0 = y := ⟨_, rfl⟩
          have hxn : x < n := hx ▸ getD_lt (HPI.out.mem HM.out) (by rw [HPI.out.length, HLEN.out]; exact HT.out)
          have hyn : y < n := hy ▸ HPF.out
          have hx0 : (0 : Int) ≤ (x : Int) := by omega
          have hy0 : (0 : Int) ≤ (y : Int) := by omega
          have hxI : (x : Int) < (n : Int) := by omega
          have hyI : (y : Int) < (n : Int) := by omega
          have k1 : wr.cell? ⟨gp, t, none⟩ = some (.int .i64 (x : Nat)) := hx ▸ (HSR.out.pl.2.2 t HT.out).1
          have k2 : wr.cell? ⟨gp, f, none⟩ = some (.int .i64 (y : Nat)) := hy ▸ (HSR.out.pl.2.2 f HF.out).1
          obtain ⟨rx, hrx⟩ : ∃ r, R.getD x 0 = r := ⟨_, rfl⟩
          obtain ⟨ry, hry⟩ : ∃ r, R.getD y 0 = r := ⟨_, rfl⟩
          have k3 : wr.cell? ⟨gr, x, none⟩ = some (.int .i64 (rx : Nat)) := hrx ▸ (HSR.out.rk.2.2 x hxn).1
          have k4 : wr.cell? ⟨gr, y, none⟩ = some (.int .i64 (ry : Nat)) := hry ▸ (HSR.out.rk.2.2 y hyn).1
          have HEQ : Hid (rx = ry ↔ keyB b K (P0.getD t 0) = keyB b K (P0.getD f 0)) := Lib.hid (by
            rw [← hrx, ← hry, HRK.out.eq (by rw [HB.out]; exact hxn) (by rw [HB.out]; exact hyn), ← hx, ← hy, getD_drop_eq HPI.out.rest (Nat.le_of_lt HGR.out.lt), getD_drop_eq HPI.out.rest (Nat.le_refl _)])
          have W2 : IntKind.i64.wrap ((t : Int) + 1) = (t : Int) + 1 := IntWalk.i64_in _ (by omega)
          clear hx hy hrx hry hxn hyn
          by_cases he : rx = ry
          · have hqe : ((rx : Int) == (ry : Int)) = true := by rw [he]; simp
            have HGN := Lib.hid (grp_next HGR.out (by rw [HLEN.out]; exact HT.out) (HEQ.out.1 he))
            clear hg2 he
            go_wp2
            go_quiet (fail)
            go_wp2
            go_roundg (n - (t + 1))
            case measure => have := HG2.out; have := HT.out; omega
            case rel => exact ⟨t + 1, by go_num, by have := HG2.out; have := HT.out; omega, HGN, Lib.hid ⟨q0 + nq, rfl⟩⟩
          · have hqe : ((rx : Int) == (ry : Int)) = false := by rw [beq_eq_false_iff_ne]; omega
            have HEND : Hid (t = P0.length ∨ keyB b K (P0.getD t 0) ≠ keyB b K (P0.getD f 0)) := Lib.hid (.inr (fun e => he (HEQ.out.2 e)))
            clear he
            by_cases hsz : f + 1 < t
            · have d1 : decide ((1 : Int) < (t : Int) - (f : Int)) = true := decide_eq_true (by omega)
              have W3 : IntKind.i64.wrap ((t : Int) - (f : Int)) = (t : Int) - (f : Int) := IntWalk.i64_in _ (by omega)
              have HPS := Lib.hid (fun k => part_sorts w.heap.size gs gp gr gm n f t K b P R M (wr.drewN k) (HSR.out.keep (Nat.le_refl _) (fun _ _ => rfl)) HCX.out HNX.out HB.out (HPI.out.mem HM.out) HGR.out.lt (by have := HGR.out.le; have := HLEN.out; omega) HN.out HK.out)
              have HSZ := Lib.hid hsz
              have HKN : Hid (K < n) := Lib.hid (key_small HGR.out hsz HND.out HM.out HB.out)
              have hftN : f ≤ t := by omega
              have htnN : t ≤ n := by have := HGR.out.le; have := HLEN.out; omega
              have hfnN : ¬ f = n := by have := HF.out; omega
              have hnfN : ¬ n = f := by have := HF.out; omega
              clear hg2 hsz
              go_wp2
              go_quiet (fail)
              go_wp2_with (go_at_call 42; go_must (refine (HPS.out _).mono ?_; rintro e w3 ⟨rfl, L', hL, e1, e2, e3, e4, hg3⟩; have HPN := Lib.hid (HPI.out.sorted HS.out HRK.out HK1.out HGR.out HEND.out e1 e2 e3 (e4.imp (fun h => Int.not_lt.2 h)) true (by rw [decide_eq_true (show 1 < t - f by have := HSZ.out; omega)]; simp)); have HSN := Lib.hid ((HSR.out.keep (w' := wr.drewN (q0 + nq)) (Nat.le_refl _) (fun _ _ => rfl)).sorted hg3 hL); have HCN := Lib.hid ((World.cell?_of_block (a := ⟨w.heap.size, 0, none⟩) (hg3.block _ (World.block_lt_of_cell? _ _ HCX.out) (fun e => HNX.out (Option.some.inj e)))).trans HCX.out); have HGN := Lib.hid (HGW.out.trans (show wr.grownBy w3 (some gp) from ⟨hg3.os, hg3.tape, hg3.output, hg3.size, hg3.block⟩)); clear hL e1 e2 e3 e4 hg3))
              go_roundg (n - t)
              case measure => have := HG.out; have := HGR.out.lt; have := HGR.out.le; have := HLEN.out; omega
              case rel => exact ⟨t, true, L', rfl, rfl, by have := HGR.out.le; have := HLEN.out; omega, HPN, Lib.hid (fun _ => HKN.out), HSN, HCN, HGN⟩
            · have ht1 : t = f + 1 := by have := HGR.out.lt; omega
              have d1 : decide ((1 : Int) < (t : Int) - (f : Int)) = false := decide_eq_false (by omega)
              have W3 : IntKind.i64.wrap ((t : Int) - (f : Int)) = (t : Int) - (f : Int) := IntWalk.i64_in _ (by omega)
              have HPN : Hid (PartInv b K P0 t P met) := Lib.hid (by have h1 := HGR.out; have h2 := HEND.out; rw [ht1] at h1 h2 ⊢; exact HPI.out.single HS.out HRK.out HK1.out h1 h2)
              clear hg2 hsz ht1
              go_wp2
              go_quiet (fail)
              go_wp2
              go_roundg (n - t)
              case measure => have := HG.out; have := HGR.out.lt; have := HGR.out.le; have := HLEN.out; omega
              case rel => exact ⟨t, met, P, rfl, rfl, by have := HGR.out.le; have := HLEN.out; omega, HPN, HKT, Lib.hid (HSR.out.keep (Nat.le_refl _) (fun _ _ => rfl)), HCX, Lib.hid ⟨HGW.out.os, HGW.out.tape, HGW.out.output, HGW.out.size, HGW.out.block⟩⟩
        · have HEND : Hid (t = P0.length ∨ keyB b K (P0.getD t 0) ≠ keyB b K (P0.getD f 0)) := Lib.hid (.inl (by have := HGR.out.le; have := HLEN.out; omega))
          have d0 : decide ((t : Int) < (n : Int)) = false := decide_eq_false htn
          have d0n : decide (t < n) = false := decide_eq_false (by omega)
          clear htn
          by_cases hsz : f + 1 < t
          · have d1 : decide ((1 : Int) < (t : Int) - (f : Int)) = true := decide_eq_true (by omega)
            have W3 : IntKind.i64.wrap ((t : Int) - (f : Int)) = (t : Int) - (f : Int) := IntWalk.i64_in _ (by omega)
            have HPS := Lib.hid (fun k => part_sorts w.heap.size gs gp gr gm n f t K b P R M (wr.drewN k) (HSR.out.keep (Nat.le_refl _) (fun _ _ => rfl)) HCX.out HNX.out HB.out (HPI.out.mem HM.out) HGR.out.lt (by have := HGR.out.le; have := HLEN.out; omega) HN.out HK.out)
            have HSZ := Lib.hid hsz
            have HKN : Hid (K < n) := Lib.hid (key_small HGR.out hsz HND.out HM.out HB.out)
            have hftN : f ≤ t := by omega
            have htnN : t ≤ n := by have := HGR.out.le; have := HLEN.out; omega
            have hfnN : ¬ f = n := by have := HF.out; omega
            have hnfN : ¬ n = f := by have := HF.out; omega
            clear hg2 hsz
            go_wp2
            go_quiet (fail)
            go_wp2_with (go_at_call 42; go_must (refine (HPS.out _).mono ?_; rintro e w3 ⟨rfl, L', hL, e1, e2, e3, e4, hg3⟩; have HPN := Lib.hid (HPI.out.sorted HS.out HRK.out HK1.out HGR.out HEND.out e1 e2 e3 (e4.imp (fun h => Int.not_lt.2 h)) true (by rw [decide_eq_true (show 1 < t - f by have := HSZ.out; omega)]; simp)); have HSN := Lib.hid ((HSR.out.keep (w' := wr.drewN (q0 + nq)) (Nat.le_refl _) (fun _ _ => rfl)).sorted hg3 hL); have HCN := Lib.hid ((World.cell?_of_block (a := ⟨w.heap.size, 0, none⟩) (hg3.block _ (World.block_lt_of_cell? _ _ HCX.out) (fun e => HNX.out (Option.some.inj e)))).trans HCX.out); have HGN := Lib.hid (HGW.out.trans (show wr.grownBy w3 (some gp) from ⟨hg3.os, hg3.tape, hg3.output, hg3.size, hg3.block⟩)); clear hL e1 e2 e3 e4 hg3))
            go_roundg (n - t)
            case measure => have := HG.out; have := HGR.out.lt; have := HGR.out.le; have := HLEN.out; omega
            case rel => exact ⟨t, true, L', rfl, rfl, by have := HGR.out.le; have := HLEN.out; omega, HPN, Lib.hid (fun _ => HKN.out), HSN, HCN, HGN⟩
          · have ht1 : t = f + 1 := by have := HGR.out.lt; omega
            have d1 : decide ((1 : Int) < (t : Int) - (f : Int)) = false := decide_eq_false (by omega)
            have W3 : IntKind.i64.wrap ((t : Int) - (f : Int)) = (t : Int) - (f : Int) := IntWalk.i64_in _ (by omega)
            have HPN : Hid (PartInv b K P0 t P met) := Lib.hid (by have h1 := HGR.out; have h2 := HEND.out; rw [ht1] at h1 h2 ⊢; exact HPI.out.single HS.out HRK.out HK1.out h1 h2)
            clear hg2 hsz ht1
            go_wp2
            go_quiet (fail)
            go_wp2
            go_roundg (n - t)
            case measure => have := HG.out; have := HGR.out.lt; have := HGR.out.le; have := HLEN.out; omega
            case rel => exact ⟨t, met, P, rfl, rfl, by have := HGR.out.le; have := HLEN.out; omega, HPN, HKT, Lib.hid (HSR.out.keep (Nat.le_refl _) (fun _ _ => rfl)), HCX, Lib.hid ⟨HGW.out.os, HGW.out.tape, HGW.out.output, HGW.out.size, HGW.out.block⟩⟩
    · have hfN : f = P0.length := by have := HLEN.out; omega
      have d0 : decide ((f : Int) < (n : Int)) = false := decide_eq_false hfn
      have d0n : decide (f < n) = false := decide_eq_false (by omega)
      have HPN : Hid (PartInv b K P0 P0.length P met) := Lib.hid (hfN ▸ HPI.out)
      clear hfn hfN hg
      go_wp2
      go_ret
      exact ⟨met, P, rfl, HPN.out, HKT.out, HSR.out, HGW.out⟩
#print axioms part_any
end Go.Proofs.Ytheigemfbcgjcaa
