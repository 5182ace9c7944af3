/-
  The walk of rise.
-/
import Derived.Test.YtheigemfbcgjcaaDlPartW
namespace Go.Proofs.Ytheigemfbcgjcaa
open Go.RowKit

/-- So many places have their new ranks. -/
def RiseInv (b : List UInt8) (K : Nat) (P : List Nat) (i : Nat) (M : List Nat) : Prop := ∀ j, j < i → M.getD (P.getD j 0) 0 = rkF b K P j
theorem getD_set_self {M : List Nat} {p v : Nat} (h : p < M.length) : (M.set p v).getD p 0 = v := by rw [List.getD_eq_getElem?_getD, List.getElem?_set_self h]; rfl
theorem getD_set_ne {M : List Nat} {p q v : Nat} (h : p ≠ q) : (M.set p v).getD q 0 = M.getD q 0 := by rw [List.getD_eq_getElem?_getD, List.getD_eq_getElem?_getD, List.getElem?_set_ne h]
theorem nodup_ne {P : List Nat} (h : P.Nodup) {i j : Nat} (hi : i < P.length) (hj : j < P.length) (hij : i ≠ j) : P.getD i 0 ≠ P.getD j 0 := by
  rw [List.getD_eq_getElem?_getD, List.getD_eq_getElem?_getD, List.getElem?_eq_getElem hi, List.getElem?_eq_getElem hj]
  intro e
  have e1 : P[i] = P[j] := by simpa using e
  rcases Nat.lt_or_ge i j with hl | hl
  · exact (List.pairwise_iff_getElem.1 h i j hi hj hl) e1
  · exact (List.pairwise_iff_getElem.1 h j i hj hi (by omega)) e1.symm
theorem RiseInv.next {b : List UInt8} {K : Nat} {P M : List Nat} {i v : Nat} (h : RiseInv b K P i M) (hn : P.Nodup) (hi : i < P.length) (hp : P.getD i 0 < M.length) (hv : v = rkF b K P i) : RiseInv b K P (i + 1) (M.set (P.getD i 0) v) := fun j hj => by
  by_cases hji : j = i
  · subst hji; rw [getD_set_self hp, hv]
  · rw [getD_set_ne (nodup_ne hn hi (by omega) (fun e => hji e.symm))]; exact h j (by omega)
section
variable {w : World} {gs gp gr gm n K : Nat} {P R M : List Nat}
theorem Srt.store (h : Srt w gs gp gr gm n P K R M) {i : Nat} (hi : i < n) (x : Nat) : Srt (w.setCell ⟨gm, i, none⟩ (.int .i64 (x : Nat))) gs gp gr gm n P K R (M.set i x) := by
  have e : ∀ j, (w.setCell ⟨gm, i, none⟩ (.int .i64 (x : Nat))).cell? ⟨gs, j, none⟩ = w.cell? ⟨gs, j, none⟩ := fun j => World.cell?_setCell_other (w := w) (a := ⟨gm, i, none⟩) (b := ⟨gs, j, none⟩) (v := _) (h := fun e => h.ne.2.2.1 (by injection e with e1 _ _; exact e1.symm))
  exact ⟨by rw [e]; exact h.c0, by rw [e]; exact h.c1, by rw [e]; exact h.c2, by rw [e]; exact h.c3, fun j => by rw [World.frozen?_setCell]; exact h.free j, h.pl.other (a := ⟨gm, i, none⟩) h.ne.2.2.2.2.1 _, h.rk.other (a := ⟨gm, i, none⟩) h.ne.2.2.2.2.2 _, h.rm.set hi x, h.ne⟩
/-- Ranks and room change places; twice as much is known. -/
theorem Srt.swap (h : Srt w gs gp gr gm n P K R M) : Srt (((w.setCell ⟨gs, 2, none⟩ (pS gm n)).setCell ⟨gs, 3, none⟩ (pS gr n)).setCell ⟨gs, 1, none⟩ (.int .i64 ((K + K : Nat)))) gs gp gm gr n P (K + K) M R := by
  have o : ∀ (W : World) (i j : Nat) (v : Value), i ≠ j → (W.setCell ⟨gs, i, none⟩ v).cell? ⟨gs, j, none⟩ = W.cell? ⟨gs, j, none⟩ := fun W i j v hij => World.cell?_setCell_other (w := W) (a := ⟨gs, i, none⟩) (b := ⟨gs, j, none⟩) (v := v) (h := fun e => hij (by injection e))
  have s : ∀ (W : World) (i : Nat) (v u : Value), W.cell? ⟨gs, i, none⟩ = some u → (W.setCell ⟨gs, i, none⟩ v).cell? ⟨gs, i, none⟩ = some v := fun W i v u hu => World.cell?_setCell_same (w := W) (a := ⟨gs, i, none⟩) (v := v) (h := hu)
  refine ⟨?_, ?_, ?_, ?_, fun j => ?_, ?_, ?_, ?_, ⟨h.ne.1, h.ne.2.2.1, h.ne.2.1, h.ne.2.2.2.2.1, h.ne.2.2.2.1, h.ne.2.2.2.2.2.symm⟩⟩
  · rw [o _ 1 0 _ (by decide), o _ 3 0 _ (by decide), o _ 2 0 _ (by decide)]; exact h.c0
  · exact s _ 1 _ _ (by rw [o _ 3 1 _ (by decide), o _ 2 1 _ (by decide)]; exact h.c1)
  · rw [o _ 1 2 _ (by decide), o _ 3 2 _ (by decide)]; exact s _ 2 _ _ h.c2
  · rw [o _ 1 3 _ (by decide)]; exact s _ 3 _ _ (by rw [o _ 2 3 _ (by decide)]; exact h.c3)
  · rw [World.frozen?_setCell, World.frozen?_setCell, World.frozen?_setCell]; exact h.free j
  · exact ((h.pl.other (a := ⟨gs, 2, none⟩) h.ne.1.symm _).other (a := ⟨gs, 3, none⟩) h.ne.1.symm _).other (a := ⟨gs, 1, none⟩) h.ne.1.symm _
  · exact ((h.rm.other (a := ⟨gs, 2, none⟩) h.ne.2.2.1.symm _).other (a := ⟨gs, 3, none⟩) h.ne.2.2.1.symm _).other (a := ⟨gs, 1, none⟩) h.ne.2.2.1.symm _
  · exact ((h.rk.other (a := ⟨gs, 2, none⟩) h.ne.2.1.symm _).other (a := ⟨gs, 3, none⟩) h.ne.2.1.symm _).other (a := ⟨gs, 1, none⟩) h.ne.2.1.symm _
end
set_option maxRecDepth 100000 in
set_option maxHeartbeats 4000000 in
theorem rise_any (gs gp gr gm n K base : Nat) (b : List UInt8) (P R M : List Nat) (w0 w : World) (h : Srt w gs gp gr gm n P K R M) (hb : b.length = n) (hP : P.Perm (List.range n)) (hs : P.Pairwise (leK b (K + K))) (hR : RankOk b K R) (hn : n ≤ 1000000) (hK1 : 1 ≤ K) (hK : K ≤ 2000000)
    (hB : Below base w0 w) (hlo : base ≤ gs ∧ base ≤ gm) :
    Calls Try.prog 46 #[.pointer (some ⟨gs, 0, none⟩)] w fun e w' => e = .returned (.tuple #[]) ∧ ∃ M', RankOk b (K + K) M' ∧ Srt w' gs gp gm gr n P (K + K) M' R ∧ Below base w0 w' := by
  have hnd : P.Nodup := hP.nodup_iff.2 List.nodup_range
  have hm : ∀ x ∈ P, x < n := fun x hx => List.mem_range.1 (hP.mem_iff.1 hx)
  have HS0 := Lib.hid h
  have HLEN := Lib.hid h.pl.1
  have HB := Lib.hid hb
  have HPR := Lib.hid hP
  have HND := Lib.hid hnd
  have HM := Lib.hid hm
  have HS := Lib.hid hs
  have HRK := Lib.hid hR
  have HN := Lib.hid hn
  have HK1 := Lib.hid hK1
  have HK := Lib.hid hK
  have HB0 := Lib.hid hB
  have HLO := Lib.hid hlo
  have hnI : (n : Int) ≤ 1000000 := by omega
  have hn0 : (0 : Int) ≤ (n : Int) := by omega
  have hK0 : (0 : Int) ≤ (K : Int) := by omega
  have c0 := h.c0
  unfold pS at c0
  clear hb hP hnd hm hs hR hn hK1 hK hB hlo h
  go_enter Try.func46, Try.ntmps46
  go_wp2
  go_loopg [10] n (fun g v10 W => ∃ (i : Nat) (Mi : List Nat), v10 = .int .i64 i ∧ g + i = n ∧ Hid (RiseInv b (K + K) P i Mi) ∧ Hid (Srt W gs gp gr gm n P K R Mi) ∧ Hid (Below base w0 W))
  case atStart => exact ⟨0, M, rfl, rfl, Lib.hid (fun j hj => absurd hj (Nat.not_lt_zero _)), HS0, HB0⟩
  case round =>
    clear c0
    obtain ⟨i, Mi, rfl, hg, HRI, HSR, HBW⟩ := hrel
    have HG := Lib.hid hg
    have hi0 : (0 : Int) ≤ (i : Int) := by omega
    by_cases hin : (i : Int) < (n : Int)
    · have HI := Lib.hid (show i < n by omega)
      obtain ⟨p, hp⟩ : ∃ p, P.getD i 0 = p := ⟨_, rfl⟩
      have hpn : p < n := hp ▸ getD_lt HM.out (by rw [HLEN.out]; exact HI.out)
      have HPE := Lib.hid hp
      have HPN := Lib.hid hpn
      have hp0 : (0 : Int) ≤ (p : Int) := by omega
      have hpI : (p : Int) < (n : Int) := by omega
      have k1 : wr.cell? ⟨gp, i, none⟩ = some (.int .i64 (p : Nat)) := hp ▸ (HSR.out.pl.2.2 i HI.out).1
      have c3 := HSR.out.c3
      unfold pS at c3
      obtain ⟨m0, hm0⟩ : ∃ m, Mi.getD p 0 = m := ⟨_, rfl⟩
      have k2 : wr.cell? ⟨gm, p, none⟩ = some (.int .i64 (m0 : Nat)) := hm0 ▸ (HSR.out.rm.2.2 p hpn).1
      have k3 : wr.frozen? ⟨gm, p, none⟩ = false := (HSR.out.rm.2.2 p hpn).2
      obtain ⟨w2, hw2⟩ : ∃ W, wr.setCell ⟨gm, p, none⟩ (.int .i64 (i : Nat)) = W := ⟨_, rfl⟩
      have HS2 : Hid (Srt w2 gs gp gr gm n P K R (Mi.set p i)) := Lib.hid (hw2 ▸ HSR.out.store hpn i)
      have HB2 : Hid (Below base w0 w2) := Lib.hid (hw2 ▸ HBW.out.setCell (p := ⟨gm, p, none⟩) HLO.out.2 _)
      have hw1 : IntKind.i64.wrap ((i : Int) + 1) = (i : Int) + 1 := IntWalk.i64_in _ (by omega)
      clear hg hp hpn hm0
      by_cases hi : i = 0
      · subst hi
        have HRN : Hid (RiseInv b (K + K) P 1 (Mi.set p 0)) := Lib.hid (by rw [← HPE.out]; exact HRI.out.next HND.out (by rw [HLEN.out]; exact HI.out) (by rw [HPE.out, HSR.out.rm.1]; exact HPN.out) rfl)
        go_wp2
        go_roundg (n - 1)
        case measure => have := HG.out; have := HI.out; omega
        case rel => exact ⟨1, Mi.set p 0, rfl, by have := HI.out; omega, HRN, Lib.hid (HSR.out.store HPN.out 0), Lib.hid (HBW.out.setCell (p := ⟨gm, p, none⟩) HLO.out.2 _)⟩
      · have hi1 : 1 ≤ i := by omega
        have HI1 := Lib.hid hi1
        have hin0 : ((i : Int) == 0) = false := by rw [beq_eq_false_iff_ne]; omega
        have wi : IntKind.i64.wrap ((i : Int) - 1) = (i : Int) - 1 := IntWalk.i64_in _ (by omega)
        have hi1I : (1 : Int) ≤ (i : Int) := by omega
        have hlt1 : (i : Int) - 1 < (n : Int) := by omega
        have hnat : ((i : Int) - 1).toNat = i - 1 := by omega
        obtain ⟨q, hq⟩ : ∃ q, P.getD (i - 1) 0 = q := ⟨_, rfl⟩
        have HQE := Lib.hid hq
        have hqn : q < n := hq ▸ getD_lt HM.out (by rw [HLEN.out]; have := HI.out; omega)
        have HQN := Lib.hid hqn
        have hq0 : (0 : Int) ≤ (q : Int) := by omega
        have hqI : (q : Int) < (n : Int) := by omega
        have HPQ : Hid (p ≠ q) := Lib.hid (by rw [← HPE.out, ← HQE.out]; exact nodup_ne HND.out (by rw [HLEN.out]; exact HI.out) (by rw [HLEN.out]; have := HI.out; omega) (by have := HI1.out; omega))
        have d0 := HS2.out.c0
        have d2 := HS2.out.c2
        have d3 := HS2.out.c3
        unfold pS at d0 d2 d3
        have l1 : w2.cell? ⟨gp, i - 1, none⟩ = some (.int .i64 (q : Nat)) := hq ▸ (HS2.out.pl.2.2 (i - 1) (by have := HI.out; omega)).1
        obtain ⟨rp, hrp⟩ : ∃ r, R.getD p 0 = r := ⟨_, rfl⟩
        obtain ⟨rq, hrq⟩ : ∃ r, R.getD q 0 = r := ⟨_, rfl⟩
        have l2 : w2.cell? ⟨gr, p, none⟩ = some (.int .i64 (rp : Nat)) := hrp ▸ (HS2.out.rk.2.2 p HPN.out).1
        have l3 : w2.cell? ⟨gr, q, none⟩ = some (.int .i64 (rq : Nat)) := hrq ▸ (HS2.out.rk.2.2 q hqn).1
        obtain ⟨zp, hzp⟩ : ∃ z, behF b K R p = z := ⟨_, rfl⟩
        obtain ⟨zq, hzq⟩ : ∃ z, behF b K R q = z := ⟨_, rfl⟩
        have HBP := Lib.hid (drew_behind HB.out HS2.out.c1 HS2.out.c2 HS2.out.rk HPN.out HN.out HK.out zp hzp)
        have HBQ := Lib.hid (drew_behind HB.out HS2.out.c1 HS2.out.c2 HS2.out.rk hqn HN.out HK.out zq hzq)
        have HKE : Hid ((rp = rq ∧ zp = zq) ↔ keyB b (K + K) (P.getD i 0) = keyB b (K + K) (P.getD (i - 1) 0)) := Lib.hid (by
          rw [HPE.out, HQE.out, ← key_eq_twice HRK.out HK1.out (by rw [HB.out]; exact HPN.out) (by rw [HB.out]; exact hqn), hrp, hrq, hzp, hzq])
        obtain ⟨mq, hmq⟩ : ∃ m, (Mi.set p i).getD q 0 = m := ⟨_, rfl⟩
        have l4 : w2.cell? ⟨gm, q, none⟩ = some (.int .i64 (mq : Nat)) := hmq ▸ (HS2.out.rm.2.2 q hqn).1
        have l5 : w2.cell? ⟨gm, p, none⟩ = some (.int .i64 (((Mi.set p i).getD p 0 : Nat))) := (HS2.out.rm.2.2 p HPN.out).1
        have l6 : w2.frozen? ⟨gm, p, none⟩ = false := (HS2.out.rm.2.2 p HPN.out).2
        have HMQ : Hid (mq = rkF b (K + K) P (i - 1)) := Lib.hid (by
          rw [← hmq, getD_set_ne HPQ.out, ← HQE.out]
          exact HRI.out (i - 1) (by have := HI1.out; omega))
        have HRK2 : Hid (rkF b (K + K) P i = if keyB b (K + K) (P.getD i 0) = keyB b (K + K) (P.getD (i - 1) 0) then rkF b (K + K) P (i - 1) else i) := Lib.hid (by
          obtain ⟨k, rfl⟩ : ∃ k, i = k + 1 := ⟨i - 1, by have := HI1.out; omega⟩
          rfl)
        have HNX := Lib.hid (fun v (hv : v = rkF b (K + K) P i) => (show RiseInv b (K + K) P (i + 1) (Mi.set p v) by rw [← HPE.out]; exact HRI.out.next HND.out (by rw [HLEN.out]; exact HI.out) (by rw [HPE.out, HSR.out.rm.1]; exact HPN.out) hv))
        clear hq hqn hrp hrq hzp hzq hmq hi
        by_cases he : rp = rq
        · have hqe : ((rp : Int) == (rq : Int)) = true := by rw [he]; simp
          by_cases hz : zp = zq
          · have hze : (zp == zq) = true := by rw [hz]; simp
            have HRN : Hid (RiseInv b (K + K) P (i + 1) ((Mi.set p i).set p mq)) := Lib.hid (by
              rw [List.set_set]
              exact HNX.out mq (by rw [HMQ.out, HRK2.out, if_pos (HKE.out.1 ⟨he, hz⟩)]))
            have HS3 := Lib.hid (HS2.out.store HPN.out mq)
            have HB3 := Lib.hid (HB2.out.setCell (p := ⟨gm, p, none⟩) HLO.out.2 (.int .i64 (mq : Nat)))
            clear he hz
            go_wp2
            go_quiet (first
              | (go_at_call 57; (with_reducible exact HBP.out _))
              | (go_at_call 57; (with_reducible exact HBQ.out _)))
            go_wp2
            go_region
            go_wp2
            go_roundg (n - (i + 1))
            case measure => have := HG.out; have := HI.out; omega
            case rel => exact ⟨i + 1, (Mi.set p i).set p mq, by go_num, by have := HG.out; have := HI.out; omega, HRN, Lib.hid ((HS2.out.keep (w' := w2.drewN (nq + 1)) (Nat.le_refl _) (fun _ _ => rfl)).store HPN.out mq), Lib.hid ((below_dn HB2.out (nq + 1)).setCell (p := ⟨gm, p, none⟩) HLO.out.2 _)⟩
          · have hze : (zp == zq) = false := by rw [beq_eq_false_iff_ne]; exact hz
            have HRN : Hid (RiseInv b (K + K) P (i + 1) (Mi.set p i)) := Lib.hid (HNX.out i (by rw [HRK2.out, if_neg (fun e => hz (HKE.out.2 e).2)]))
            clear he hz
            go_wp2
            go_quiet (first
              | (go_at_call 57; (with_reducible exact HBP.out _))
              | (go_at_call 57; (with_reducible exact HBQ.out _)))
            go_wp2
            go_roundg (n - (i + 1))
            case measure => have := HG.out; have := HI.out; omega
            case rel => exact ⟨i + 1, Mi.set p i, by go_num, by have := HG.out; have := HI.out; omega, HRN, Lib.hid (HS2.out.keep (Nat.le_refl _) (fun _ _ => rfl)), Lib.hid (below_dn HB2.out _)⟩
        · have hqe : ((rp : Int) == (rq : Int)) = false := by rw [beq_eq_false_iff_ne]; omega
          have HRN : Hid (RiseInv b (K + K) P (i + 1) (Mi.set p i)) := Lib.hid (HNX.out i (by rw [HRK2.out, if_neg (fun e => he (HKE.out.2 e).1)]))
          clear he
          go_wp2
          go_quiet (first
            | (go_at_call 57; (with_reducible exact HBP.out _))
            | (go_at_call 57; (with_reducible exact HBQ.out _)))
          go_wp2
          go_roundg (n - (i + 1))
          case measure => have := HG.out; have := HI.out; omega
          case rel => exact ⟨i + 1, Mi.set p i, by go_num, by have := HG.out; have := HI.out; omega, HRN, Lib.hid (HS2.out.keep (Nat.le_refl _) (fun _ _ => rfl)), Lib.hid (below_dn HB2.out _)⟩
    · have hiN : i = n := by omega
      have d0 : decide ((i : Int) < (n : Int)) = false := decide_eq_false hin
      have d0n : decide (i < n) = false := decide_eq_false (by omega)
      have HRE : Hid (RankOk b (K + K) Mi) := Lib.hid (rank_twice (by rw [HB.out]; exact HPR.out) HS.out (by rw [HB.out]; exact HN.out) (by rw [HB.out]; exact HSR.out.rm.1) (by rw [HLEN.out, ← hiN]; exact HRI.out))
      have c1 := HSR.out.c1
      have c2 := HSR.out.c2
      have c3 := HSR.out.c3
      have f1 := HSR.out.free 1
      have f2 := HSR.out.free 2
      have f3 := HSR.out.free 3
      unfold pS at c2 c3
      clear hg hin hiN
      go_wp2
      go_region
      have e1 : ((wr.setCell ⟨gs, 2, none⟩ (.slice (some ⟨gm, 0, none⟩) n n)).setCell ⟨gs, 3, none⟩ (.slice (some ⟨gr, 0, none⟩) n n)).drew.cell? ⟨gs, 1, none⟩ = some (.int .i64 (K : Nat)) := by
        show ((wr.setCell ⟨gs, 2, none⟩ (.slice (some ⟨gm, 0, none⟩) n n)).setCell ⟨gs, 3, none⟩ (.slice (some ⟨gr, 0, none⟩) n n)).cell? ⟨gs, 1, none⟩ = _
        rw [World.cell?_setCell_other (w := _) (a := ⟨gs, 3, none⟩) (b := ⟨gs, 1, none⟩) (v := _) (h := fun e => by injection e with _ h2; omega), World.cell?_setCell_other (w := _) (a := ⟨gs, 2, none⟩) (b := ⟨gs, 1, none⟩) (v := _) (h := fun e => by injection e with _ h2; omega)]
        exact c1
      have e2 : ((wr.setCell ⟨gs, 2, none⟩ (.slice (some ⟨gm, 0, none⟩) n n)).setCell ⟨gs, 3, none⟩ (.slice (some ⟨gr, 0, none⟩) n n)).drew.frozen? ⟨gs, 1, none⟩ = false := by
        show ((wr.setCell ⟨gs, 2, none⟩ (.slice (some ⟨gm, 0, none⟩) n n)).setCell ⟨gs, 3, none⟩ (.slice (some ⟨gr, 0, none⟩) n n)).frozen? ⟨gs, 1, none⟩ = _
        rw [World.frozen?_setCell, World.frozen?_setCell]
        exact f1
      have HS5 := Lib.hid (HSR.out.swap.keep (w' := (((wr.setCell ⟨gs, 2, none⟩ (.slice (some ⟨gm, 0, none⟩) n n)).setCell ⟨gs, 3, none⟩ (.slice (some ⟨gr, 0, none⟩) n n)).drew).setCell ⟨gs, 1, none⟩ (.int .i64 ((K + K : Nat)))) (by simp) (fun k hk => rfl))
      have HB5 := Lib.hid ((((HBW.out.setCell (p := ⟨gs, 2, none⟩) HLO.out.1 (.slice (some ⟨gm, 0, none⟩) n n)).setCell (p := ⟨gs, 3, none⟩) HLO.out.1 (.slice (some ⟨gr, 0, none⟩) n n)).drew).setCell (p := ⟨gs, 1, none⟩) HLO.out.1 (.int .i64 ((K + K : Nat))))
      generalize ((wr.setCell ⟨gs, 2, none⟩ (.slice (some ⟨gm, 0, none⟩) n n)).setCell ⟨gs, 3, none⟩ (.slice (some ⟨gr, 0, none⟩) n n)).drew = w5 at e1 e2 HS5 HB5 ⊢
      have hkw : IntKind.i64.wrap ((K : Int) * 2) = (K : Int) * 2 := IntWalk.i64_in _ (by have := HK.out; omega)
      clear c1 c2 c3 f1 f2 f3
      go_wp2
      refine bodyPost_end (results_none rfl _ _ _) rfl ?_
      rw [show ((K : Int) * 2) = ((K + K : Nat) : Int) by omega]
      exact ⟨rfl, Mi, HRE.out, HS5.out, HB5.out⟩
#print axioms rise_any
end Go.Proofs.Ytheigemfbcgjcaa
