/-
  The walk of DiskDone: behind a crash another crash changes nothing.
-/
import Derived.Test.YtmlnmjpohkjgbaaActs
import Derived.Test.YtmlnmjpohkjgbaaDiskAwake
import Derived.Sort.Walk0
import Derived.Laws.Cover1
namespace Go.Proofs.Ytmlnmjpohkjgbaa
open Go.RowKit Go.Maps

section
variable {w W W' w2 : World} {F : Nat → Prop} {db : Nat} {S : DS}
/-- A disk crashes; what else was made stands. -/
def CrashRun (w W : World) (F : Nat → Prop) (db : Nat) (S : DS) (e : Ending) (W' : World) : Prop := e = .returned (.tuple #[]) ∧ ∃ F', Run w W' F' db S ∧ Chg F W W'
theorem crash_in2 {a : Option Addr} {n c : Nat} {l : List Int} (R : Run w W F db S) (h : At1 I w a n c l) (h1 : S.kept.length + S.acts.length ≤ 1000000) (hz : ∀ z ∈ l, -9223372036854775808 ≤ z ∧ z ≤ 9223372036854775807) {S2 : DS} (hS : crashS S l = S2) :
    Calls Try.prog 20 #[Pt db, .slice a n c] W (CrashRun w W F db S2) := by
  subst hS
  refine (crash_any a n c l R.1 h1 (h.below R.2.2) (fun hn g off e hF => by
    have h2 := at1_lt h hn g off e
    have h3 := R.2.1 g hF
    omega) hz).mono ?_
  rintro e w2 ⟨he, F', hs, hd⟩
  exact ⟨he, F', R.step hs hd, hs.chg⟩
theorem list_run {L : List Nm} (R : Run w W F db S) (h1 : S.kept.length + S.acts.length ≤ 1000000) (hL : listS S = L) :
    Calls Try.prog 13 #[Pt db] W fun e W' => ∃ a c, e = .returned (.slice a L.length c) ∧ At1 St W' a L.length c L ∧ Run w W' F db S ∧ (∀ g off, a = some ⟨g, off, none⟩ → ¬ F g) ∧ Below W.heap.size W W' := by
  subst hL
  refine (list_any R.1 h1).mono ?_
  rintro e w2 ⟨a, c, he, hA, hb, hn⟩
  exact ⟨a, c, he, hA, R.below hb, fun g off e hF => by
    have h2 := hn g off e
    have h3 := R.1.lt g hF
    omega, hb⟩
theorem used_run {u : Nat} (R : Run w W F db S) (hu : usedT S = u) : Calls Try.prog 15 #[Pt db] W fun e W' => e = .returned (.int .i64 (u : Int)) ∧ W = W' := by
  subst hu
  exact used_any R.1
theorem down_run (R : Run w W F db S) (hu : S.down = false) : Calls Try.prog 16 #[Pt db] W fun e W' => e = .returned (.bool false) ∧ W = W' := by
  have := down_any R.1
  rw [hu] at this
  exact this
theorem read_run (s : ByteArray) (R : Run w W F db S) (hz : (readS S s.data.toList).2 = 0) : Calls Try.prog 24 #[Pt db, .string s] W fun e W' => ∃ a n c, e = .returned (.tuple #[.slice a n c, .int .i64 0]) ∧ Run w W' F db S ∧ Below W.heap.size W W' := by
  refine (read_any s R.1).mono ?_
  rintro e w2 ⟨a, n, c, he, _, hb⟩
  exact ⟨a, n, c, by rw [he, hz]; rfl, R.below hb, hb⟩
end
theorem belowD {B : Nat} {a w : World} (h : Below B a w) (n : Nat) : Below B a (w.drewN n) := ⟨h.os, h.tape, h.output, h.size, h.block⟩
theorem list_next {S : DS} (h : Inv S) {i : Nat} (hi : i + 1 < (listS S).length) : Op.bytesLess (strB ((listS S).getD i default)).toList (strB ((listS S).getD (i + 1) default)).toList = true := by
  have hp : (listS S).Pairwise (· < ·) := by
    unfold listS
    split
    · exact .nil
    · exact names_sorted h.now.sorted
  have h1 := List.pairwise_iff_getElem.1 hp i (i + 1) (by omega) hi (by omega)
  have e1 : (listS S).getD i default = (listS S)[i]'(by omega) := by simp [List.getD, show i < (listS S).length by omega]
  have e2 : (listS S).getD (i + 1) default = (listS S)[i + 1]'hi := by simp [List.getD, hi]
  rw [bytesLess_eq, e1, e2, ByteArray.toList_eq, ByteArray.toList_eq, strB_list, strB_list]
  simpa using h1

set_option maxRecDepth 100000 in
set_option maxHeartbeats 4000000 in
theorem diskDone_any (a : Option Addr) (n c : Nat) (L : List ActV) (a1 : Option Addr) (n1 c1 : Nat) (l1 : List Int) (a2 : Option Addr) (n2 c2 : Nat) (l2 : List Int) (w : World) (hA : ActsAt w a n c L) (h1 : At1 I w a1 n1 c1 l1) (h2 : At1 I w a2 n2 c2 l2)
    (z1 : ∀ z ∈ l1, -9223372036854775808 ≤ z ∧ z ≤ 9223372036854775807) (z2 : ∀ z ∈ l2, -9223372036854775808 ≤ z ∧ z ≤ 9223372036854775807) :
    Calls Try.prog 5 #[.slice a n c, .slice a1 n1 c1, .slice a2 n2 c2] w fun e w' => e = .returned (.bool true) ∧ Below w.heap.size w w' := by
  have hn := hA.le
  have hc := hA.most
  have hn1 := h1.2.1
  have hc1 := h1.2.2.1
  have hn2 := h2.2.1
  have hc2 := h2.2.2.1
  have HA := Lib.hid hA
  by_cases hQ : ¬ Light n 60 L
  · have P := Lib.hid (light_no 60 60 rfl (by omega) hA hQ)
    clear hA h1 h2 z1 z2 hQ
    go_enter Try.func5, Try.ntmps5
    go_wp2_with (go_at_call 7; (with_reducible refine P.out.mono ?_); rintro e w1 ⟨rfl, rfl⟩)
    go_ret
    exact ⟨rfl, Below.refl _ _⟩
  have hQ := Classical.not_not.1 hQ
  have P := Lib.hid (light_yes 60 60 rfl (by omega) hA hQ)
  have HN := Lib.hid hQ.1
  have hn60 : n ≤ 60 := hQ.1
  by_cases g1 : (100 : Int) < (n1 : Int)
  · clear hA h1 h2 z1 z2 hQ
    go_enter Try.func5, Try.ntmps5
    go_wp2_with (go_at_call 7; (with_reducible refine P.out.mono ?_); rintro e w1 ⟨rfl, rfl⟩)
    go_ret
    exact ⟨rfl, Below.refl _ _⟩
  by_cases g2 : (100 : Int) < (n2 : Int)
  · clear hA h1 h2 z1 z2 hQ
    go_enter Try.func5, Try.ntmps5
    go_wp2_with (go_at_call 7; (with_reducible refine P.out.mono ?_); rintro e w1 ⟨rfl, rfl⟩)
    go_ret
    exact ⟨rfl, Below.refl _ _⟩
  have H1 := Lib.hid h1
  have H2 := Lib.hid h2
  have Z1 := Lib.hid z1
  have Z2 := Lib.hid z2
  have N1 := Lib.hid (aw_new (Below.refl w.heap.size w) 1048576 1048576 rfl (by omega))
  clear hA h1 h2 z1 z2 hQ hn hc hn1 hc1 hn2 hc2
  go_enter Try.func5, Try.ntmps5
  go_wp2_with (first
    | (go_at_call 7; (with_reducible refine P.out.mono ?_); rintro e w1 ⟨rfl, rfl⟩)
    | (go_at_call 8; (with_reducible refine N1.out.mono ?_); rintro e W1 ⟨db, rfl, F, hr⟩; have R1 := Lib.hid hr; clear hr))
  go_loopg [8] n (fun g v8 W => ∃ i : Nat, ∃ S F, Run w W F db S ∧ Few S i ∧ v8 = .int .i64 i ∧ g + i = n)
  case atStart => exact ⟨0, _, _, R1.out, few_new _, rfl, rfl⟩
  case round =>
    obtain ⟨i, S, F3, hR, hF, rfl, hg⟩ := hrel
    have HG := Lib.hid hg
    have HR := Lib.hid hR
    have HF := Lib.hid hF
    have hi0 : (0 : Int) ≤ (i : Int) := by omega
    have hiI : (i : Int) ≤ (n : Int) := by omega
    by_cases hi : (i : Int) < (n : Int)
    · have hin : i < n := by omega
      obtain ⟨b, o, rfl⟩ := HA.out.some_ (by omega)
      have hX := HA.out.below hR.2.2
      have k0 := hX.cell i hin (i := 0) (v := .int .i64 (L.getD i default).z) rfl
      have k1 := hX.cell i hin (i := 1) (v := .string (L.getD i default).s) rfl
      have k2 := hX.cell i hin (i := 2) (v := .string (L.getD i default).t) rfl
      have k3 := hX.cell i hin (i := 3) (v := .slice (L.getD i default).a (L.getD i default).m (L.getD i default).c) rfl
      have k4 := hX.cell i hin (i := 4) (v := .int .i64 (L.getD i default).n) rfl
      have k5 := hX.cell i hin (i := 5) (v := .slice (L.getD i default).a5 (L.getD i default).m5 (L.getD i default).c5) rfl
      rw [Nat.add_zero] at k0
      have D := Lib.hid (do_any (L.getD i default) hR (HA.out.each i hin) hF (by omega))
      have HD := Lib.hid (few_do hR.1.1 hF (L.getD i default))
      generalize (L.getD i default) = x at k0 k1 k2 k3 k4 k5 D HD
      clear hR hF hg hX
      go_wp2_with (go_at_call 19; (with_reducible refine D.out.mono ?_); rintro e w5 ⟨rfl, F5, hr5⟩)
      go_roundg (gk - 1)
      case measure => have := HG.out; omega
      case rel => exact ⟨i + 1, _, _, hr5, HD.out, by go_num, by have := HG.out; omega⟩
    · have hk : S.kept.length + S.acts.length ≤ 1000000 := by have := hF.dirs; omega
      have hi9 := hR.1.1
      obtain ⟨S1, hS1⟩ : ∃ S1, crashS S l1 = S1 := ⟨_, rfl⟩
      have hI1 : Inv S1 := hS1 ▸ inv_crash hi9 l1
      have hS2 : crashS S1 l2 = S1 := by rw [← hS1]; exact crash_twice hi9 l1 l2
      have hF1 : Few S1 i := hS1 ▸ few_crash hF l1
      have hk1 : S1.kept.length + S1.acts.length ≤ 1000000 := by have := hF1.dirs; omega
      have hd1 : S1.down = false := hS1 ▸ rfl
      obtain ⟨u, hu⟩ : ∃ u, usedT S1 = u := ⟨_, rfl⟩
      obtain ⟨M, hM⟩ : ∃ M, listS S1 = M := ⟨_, rfl⟩
      have C1 := Lib.hid (crash_in2 hR H1.out hk Z1.out hS1)
      have C2 := Lib.hid (fun W F (R : Run w W F db S1) => crash_in2 R H2.out hk1 Z2.out hS2)
      have LS := Lib.hid (fun W F (R : Run w W F db S1) => list_run R hk1 hM)
      have US := Lib.hid (fun W F (R : Run w W F db S1) => used_run R hu)
      have DS_ := Lib.hid (fun W F (R : Run w W F db S1) => down_run R hd1)
      have RD := Lib.hid (fun W F (R : Run w W F db S1) j (hj : j < M.length) => read_run (strB (M.getD j default)) R (by rw [strB_list]; refine read_listed hI1 hd1 ?_; rw [hM]; simp [List.getD, hj]))
      have LT := Lib.hid (fun j (hj : j + 1 < M.length) => (show Op.bytesLess (strB (M.getD j default)).toList (strB (M.getD (j + 1) default)).toList = true by have := list_next hI1 (i := j) (by rw [hM]; exact hj); rw [hM] at this; exact this))
      clear hg hR hF hk hi9 hS1 hI1 hS2 hF1 hk1 hd1 hu hM
      go_wp2_with (first
        | (go_at_call 20; have _ := Q2; (with_reducible refine (C2.out _ _ R3.out).mono ?_); rintro e W4 ⟨rfl, F4, hr4, hc4⟩; have R4 := Lib.hid hr4; have A4 := Lib.hid (A3.out.later (fun _ => NF3.out) hc4); clear hr4 hc4)
        | (go_at_call 20; (with_reducible refine C1.out.mono ?_); rintro e W2 ⟨rfl, F2, hr2, hc2⟩; have R2 := Lib.hid hr2; clear hr2 hc2)
        | (go_at_call 13; (with_reducible refine (LS.out _ _ R4.out).mono ?_); rintro e W5 ⟨b5, c5, rfl, ha5, hr5, hn5, hb5⟩; have R5 := Lib.hid hr5; have A5 := Lib.hid ha5; have A45 := Lib.hid (A4.out.below hb5); clear hr5 hn5 hb5 ha5)
        | (go_at_call 13; (with_reducible refine (LS.out _ _ R2.out).mono ?_); rintro e W3 ⟨b3, c3, rfl, ha3, hr3, hn3, hb3⟩; have R3 := Lib.hid hr3; have A3 := Lib.hid ha3; have NF3 := Lib.hid hn3; have Q2 := trivial; clear hr3 hn3 hb3 ha3)
        | (go_at_call 15; (with_reducible refine (US.out _ _ R5.out).mono ?_); rintro e W6 ⟨rfl, rfl⟩)
        | (go_at_call 15; (with_reducible refine (US.out _ _ R3.out).mono ?_); rintro e W6 ⟨rfl, rfl⟩)
        | (go_at_call 16; (with_reducible refine (DS_.out _ _ R5.out).mono ?_); rintro e W6 ⟨rfl, rfl⟩))
      have HB := Lib.hid (Below.refl W5.heap.size W5)
      have HML := Lib.hid (show M.length ≤ 9223372036854775807 from by have := A5.out.2.1; have := A5.out.2.2.1; omega)
      go_loopg [12] M.length (fun g v12 W => ∃ i : Nat, Below W5.heap.size W5 W ∧ v12 = .int .i64 i ∧ g + i = M.length)
      case atStart => exact ⟨0, HB.out, rfl, rfl⟩
      case round =>
        obtain ⟨j, hb, rfl, hg⟩ := hrel
        have HG := Lib.hid hg
        have HB2 := Lib.hid hb
        have hj0 : (0 : Int) ≤ (j : Int) := by omega
        have hjI : (j : Int) ≤ (M.length : Int) := by omega
        have hmI : (M.length : Int) ≤ 9223372036854775807 := by have := HML.out; omega
        by_cases hj : (j : Int) < (M.length : Int)
        · have hjm : j < M.length := by omega
          obtain ⟨b3', o3, rfl⟩ := A45.out.some_ (by omega)
          obtain ⟨b5', o5, rfl⟩ := A5.out.some_ (by omega)
          have k3 := (A45.out.below hb).cell j hjm
          have RD2 := Lib.hid (RD.out _ _ (R5.out.below hb) j hjm)
          have A3' := Lib.hid (A45.out.below hb)
          have A5' := Lib.hid (A5.out.below hb)
          have HJM := Lib.hid hjm
          by_cases hz : j = 0
          · subst hz
            have K : Hid (∀ W, Below wr.heap.size wr W → W.cell? ⟨b3', o3 + 0, none⟩ = some (.string (strB (M.getD 0 default))) ∧ W.cell? ⟨b5', o5 + 0, none⟩ = some (.string (strB (M.getD 0 default)))) := Lib.hid (fun W h => ⟨(A3'.out.below h).cell 0 HJM.out, (A5'.out.below h).cell 0 HJM.out⟩)
            have k3' : wr.cell? ⟨b3', o3, none⟩ = some (.string (strB (M.getD 0 default))) := k3
            clear k3 hg hb hjm
            have H0M := HJM.out
            have H0I : (0 : Int) < (M.length : Int) := by omega
            generalize strB (M.getD 0 default) = p at k3' K RD2
            go_wp2_with (go_at_call 24; (with_reducible refine RD2.out.mono ?_); rintro e w7 ⟨ar, nr, cr, rfl, hr7, hb7⟩; have HB7 := Lib.hid hb7; obtain ⟨m3, m5⟩ := K.out _ hb7; rw [Nat.add_zero] at m3 m5; clear hb7 hr7 k3')
            go_quiet (fail)
            have hb8 : Below wr.heap.size wr (w7.drewN nq) := belowD HB7.out nq
            go_wp2
            go_roundg (gk - 1)
            case measure => have := HG.out; omega
            case rel => exact ⟨0 + 1, HB2.out.trans (hb8.mono HB2.out.size), by go_num, by have := HG.out; omega⟩
          · have K : Hid (∀ W, Below wr.heap.size wr W → W.cell? ⟨b3', o3 + j, none⟩ = some (.string (strB (M.getD j default))) ∧ W.cell? ⟨b5', o5 + j, none⟩ = some (.string (strB (M.getD j default))) ∧ W.cell? ⟨b3', o3 + (j - 1), none⟩ = some (.string (strB (M.getD (j - 1) default)))) := Lib.hid (fun W h => ⟨(A3'.out.below h).cell _ HJM.out, (A5'.out.below h).cell _ HJM.out, (A3'.out.below h).cell (j - 1) (by have := HJM.out; omega)⟩)
            have k3' : wr.cell? ⟨b3', o3 + j, none⟩ = some (.string (strB (M.getD j default))) := k3
            have lt := LT.out (j - 1) (by have := HJM.out; omega)
            rw [show j - 1 + 1 = j from by omega] at lt
            clear k3 hg hb hjm
            have e0 : 0 < j := by omega
            have e1 : (0 : Int) < (j : Int) := by omega
            have e2 : (1 : Int) ≤ (j : Int) := by omega
            have e3 : IntKind.i64.wrap ((j : Int) - 1) = (j : Int) - 1 := IntWalk.i64_in _ (by have := HML.out; omega)
            have e4 : (j : Int) - 1 < (M.length : Int) := by omega
            have e5 : (0 : Int) ≤ (j : Int) - 1 := by omega
            have e6 : ((j : Int) - 1).toNat = j - 1 := by omega
            have e7 : j - 1 < M.length := by have := HJM.out; omega
            have e8 : j < M.length := HJM.out
            generalize strB (M.getD j default) = p at k3' K RD2 lt
            generalize strB (M.getD (j - 1) default) = q at K lt
            go_wp2_with (go_at_call 24; (with_reducible refine RD2.out.mono ?_); rintro e w7 ⟨ar, nr, cr, rfl, hr7, hb7⟩; have HB7 := Lib.hid hb7; obtain ⟨m3, m5, m4⟩ := K.out _ hb7; clear hb7 hr7 k3')
            go_quiet (fail)
            have hb8 : Below wr.heap.size wr (w7.drewN nq) := belowD HB7.out nq
            go_wp2
            go_roundg (gk - 1)
            case measure => have := HG.out; omega
            case rel => exact ⟨j + 1, HB2.out.trans (hb8.mono HB2.out.size), by go_num, by have := HG.out; omega⟩
        · clear hg
          have AW := Lib.hid (awake_any wr)
          go_wp2_with (go_at_call 18; (with_reducible refine AW.out.mono ?_); rintro e w9 ⟨rfl, hb9⟩; have HB9 := Lib.hid hb9; clear hb9)
          go_ret
          exact ⟨rfl, (R5.out.2.2.trans (HB2.out.mono R5.out.2.2.size)).trans (HB9.out.mono (Nat.le_trans R5.out.2.2.size HB2.out.size))⟩
#print axioms diskDone_any
end Go.Proofs.Ytmlnmjpohkjgbaa
