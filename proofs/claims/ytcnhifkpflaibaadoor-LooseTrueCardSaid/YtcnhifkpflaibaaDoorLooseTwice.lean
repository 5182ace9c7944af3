/-
  The walk of LooseTwice.
-/
import Derived.Test.YtcnhifkpflaibaaDoorLooseAwake
namespace Go.Proofs.YtcnhifkpflaibaaDoor
open Go.RowKit Go.Maps

theorem wl_exL {w : World} {ops : Array Oper} {rest : List Oper} {o : Oper} {a : Act} {Q : Exit → Act → World → Prop} {v : Value} (hw : Region.wanted o (yielded ops a.tmps) = true)
    (hr : (execOp a.eval o).run Tryd.prog w = .ok (.value v) w) (h : wpList Tryd.prog ops Q rest (a.put o.dst v) w) : wpList Tryd.prog ops Q (o :: rest) a w := by
  unfold wpList
  rw [if_pos hw]
  exact .inl (by unfold Oper.wp; rw [hr]; exact h)
/-- A disk just made: up, not armed, nothing on it. -/
theorem calm_new (q : Nat) (h : q ≤ 1073741824) : Calm (newS q) q 0 := ⟨inv_new h, rfl, rfl, rfl, Nat.le_refl _⟩
theorem put_new {q : Nat} (h : q ≤ 1073741824) (b : List UInt8) (hb : b.length ≤ 262144) (hq : b.length ≤ q) : ∃ S2, putL sumF (newS q) b = (S2, sumF b, [], 0) ∧ HeldS S2 (fileN (sumF b)) b b ∧ Calm S2 q b.length ∧ readS S2 (fileN (sumF b)) = (b, 0) := by
  rcases put_calm (calm_new q h) sumF_length b hb (by omega) with ⟨o, _, _, _, hr⟩ | ⟨S2, h1, h2, h3, h4⟩
  · exfalso
    rcases read_calm (calm_new q h) (fileN_may (sumF_length b)) with ⟨_, h4⟩ | ⟨j, h4, _⟩
    · rw [h4] at hr; cases hr
    · cases h4
  · exact ⟨S2, h1, h2, by rwa [Nat.zero_add] at h3, h4⟩
/-- What the law plays. -/
inductive TwiceR (la lb : List UInt8) : Prop where
  | same (S1 : DS) (o : List UInt8) (h1 : putL sumF (newS 1048576) la = (S1, sumF la, [], 0)) (h2 : putL sumF S1 lb = (S1, sumF lb, o, 7)) (hne : la ≠ lb)
  | put (S1 S2 S3 : DS) (u : Nat) (M : List (List UInt8)) (h1 : putL sumF (newS 1048576) la = (S1, sumF la, [], 0)) (h2 : putL sumF S1 lb = (S2, sumF lb, [], 0)) (h3 : putL sumF S2 lb = (S3, sumF lb, [], 0)) (u2 : usedT S2 = u) (u3 : usedT S3 = u) (l2 : listL sumF S2 = M) (l3 : listL sumF S3 = M)
theorem twice_r (la lb : List UInt8) (h1 : la.length ≤ 300) (h2 : lb.length ≤ 300) : TwiceR la lb := by
  obtain ⟨S1, e1, _, c1, r1⟩ := put_new (q := 1048576) (by omega) la (by omega) (by omega)
  rcases put_calm c1 sumF_length lb (by omega) (by omega) with ⟨o, e2, hne, _, r2⟩ | ⟨S2, e2, _, c2, r2⟩
  · refine .same S1 o e1 e2 (fun e => ?_)
    subst e
    rw [r1] at r2
    exact hne (congrArg Prod.fst r2).symm
  · obtain ⟨S3, e3, u3, l3⟩ := put_again c2 sumF_length (by omega) r2
    exact .put S1 S2 S3 _ _ e1 e2 e3 rfl u3 rfl l3
section
variable {w W : World} {F : Nat → Prop} {db : Nat} {S : DS}
theorem run_bel (R : Run w W F db S) : Below w.heap.size w W := R.2.2
theorem put_old {a : Option Addr} {n c : Nat} {b : List UInt8} (hb : Bytes w a n c b) (R : Run w W F db S) (hT : Tables w) {k : Nat} (hf : Few S k) (hk : k ≤ 900000) {S2 : DS} {id o : List UInt8} {z : Nat} (hr : putL sumF S b = (S2, id, o, z)) :
    Calls Tryd.prog 12 #[Pt db, .slice a n c] W fun e W' => ∃ a n c F', e = .returned (.tuple #[.agg (idCells id), .slice a n c, .int .i64 (z : Int)]) ∧ Safe F' W' a n c o ∧ Run w W' F' db S2 ∧ Step F W W' F' ∧ id.length = 32 :=
  (putAll_any (Safe.old R hb) R hT hf hk hr).mono fun e W' ⟨a, n, c, F', h1, h2, h3, h4, _⟩ => ⟨a, n, c, F', h1, h2, h3, h4, by
    have : (putL sumF S b).2.1.length = 32 := by
      unfold putL
      split
      · rfl
      · unfold putB finL
        repeat' split
        all_goals first | exact sumF_length b | rfl
    rw [hr] at this
    exact this⟩
end

set_option maxRecDepth 100000 in
set_option maxHeartbeats 4000000 in
theorem looseTwice_any (a : Option Addr) (n c : Nat) (la : List UInt8) (a1 : Option Addr) (n1 c1 : Nat) (lb : List UInt8) (w : World) (ha : Bytes w a n c la) (hb : Bytes w a1 n1 c1 lb) (hT : Tables w) :
    Calls Tryd.prog 5 #[.slice a n c, .slice a1 n1 c1] w fun e w' => e = .returned (.bool true) ∧ Below w.heap.size w w' := by
  have hla := ha.1
  have hlb := hb.1
  have hn := ha.2.1
  have hc := ha.2.2.1
  have hn1 := hb.2.1
  have hc1 := hb.2.2.1
  by_cases g1 : (300 : Int) < (n : Int)
  · clear ha hb hT
    go_enter Tryd.func5, Tryd.ntmps5
    go_wp2
    go_ret
    exact ⟨rfl, Below.refl _ _⟩
  by_cases g2 : (300 : Int) < (n1 : Int)
  · clear ha hb hT
    go_enter Tryd.func5, Tryd.ntmps5
    go_wp2
    go_ret
    exact ⟨rfl, Below.refl _ _⟩
  have N1 := Lib.hid (aw_new (Below.refl w.heap.size w) 1048576 1048576 rfl (by omega))
  have HA := Lib.hid ha
  have HB := Lib.hid hb
  have AW := Lib.hid (fun W (h : Below w.heap.size w W) => awake_any9 W (hT.below h))
  have hfew := few_new 1048576
  have hi0 := inv_new (q := 1048576) (by omega)
  cases twice_r la lb (by omega) (by omega) with
  | same S1 o h1 h2 hne =>
    have f1 := (put_ok (H := sumF) hi0 hfew la).2
    rw [h1] at f1
    have P1 := Lib.hid (fun W F db (R : Run w W F db (newS 1048576)) => put_old ha R hT hfew (by omega) h1)
    have P2 := Lib.hid (fun W F db (R : Run w W F db S1) => put_old hb R hT f1 (by omega) h2)
    have US := Lib.hid (fun W F db (R : Run w W F db S1) => lo_used R rfl)
    have LI := Lib.hid (fun W F db (R : Run w W F db S1) => listAll_any R hT f1 (by omega) rfl)
    have keq : ((strB la).toList == (strB lb).toList) = false := by simp [str_eq, hne]
    clear ha hb hT hfew hi0 h1 h2 hne f1 hla hlb
    go_enter Tryd.func5, Tryd.ntmps5
    go_wp2_with (first
      | (go_at_call 7; (with_reducible refine N1.out.mono ?_); rintro e w1 ⟨db, rfl, F1, hr⟩; have R1 := Lib.hid hr; clear hr)
      | (go_at_call 12; (with_reducible refine (P2.out _ _ _ R5.out).mono ?_); rintro e w6 ⟨a6, n6, c6, F6, rfl, _, hr, hb6, hl6⟩; have R6 := Lib.hid hr; clear hr)
      | (go_at_call 12; (with_reducible refine (P2.out _ _ _ R2.out).mono ?_); rintro e w3 ⟨a3, n3, c3, F3, rfl, _, hr, hb3, hl3⟩; have R3 := Lib.hid hr; clear hr)
      | (go_at_call 12; (with_reducible refine (P1.out _ _ _ R1.out).mono ?_); rintro e w2 ⟨a2, n2, c2, F2, rfl, _, hr, _, _⟩; have R2 := Lib.hid hr; clear hr)
      | ((with_reducible show wpList _ _ _ (⟨some 6, _, _, _, _, _⟩ :: _) _ _); refine alloc_id rfl rfl ?_; intro w4 hid4 hb4 hs4; have HB4 := Lib.hid hb4; clear hb4 hs4)
      | (refine store_id rfl (.tmp 6) (.tmp 30) rfl _ _ (sumF lb) rfl rfl hid4 hl3 ?_; intro w5 hid5 hg5 hs5; have R4 := Lib.hid (R3.out.below (HB4.out.grown hg5 HB4.out.size (fun k hk => by cases hk; exact Nat.le_refl _))); clear hg5 hs5 hid4)
      | (go_at_call 20; (with_reducible refine (US.out _ _ _ R4.out).mono ?_); rintro e _ ⟨rfl, rfl⟩)
      | (go_at_call 18; (with_reducible refine (LI.out _ _ _ R4.out).mono ?_); rintro e w7 ⟨a7, c7, rfl, _, hr, hb7⟩; have R5 := Lib.hid hr; clear hr hb7)
      | ((with_reducible show wpList _ _ _ (⟨some 11, _, _, _, _, _⟩ :: _) _ _); refine alloc_id rfl rfl ?_; intro w8 hid8 hb8 hs8; have HB8 := Lib.hid hb8; clear hb8 hs8)
      | (refine store_id rfl (.tmp 11) (.tmp 42) rfl _ _ (sumF lb) rfl rfl hid8 hl6 ?_; intro w9 hid9 hg9 hs9; have R9 := Lib.hid (R6.out.below (HB8.out.grown hg9 HB8.out.size (fun k hk => by cases hk; exact Nat.le_refl _))); have s1 := run_str (HA.out.below R9.out.2.2) 9 Tryd.underlying9; have s2 := run_str (HB.out.below R9.out.2.2) 9 Tryd.underlying9; clear hg9 hs9 hid8))
    go_ret
    exact ⟨rfl, R9.out.2.2⟩
  | put S1 S2 S3 u M h1 h2 h3 u2 u3 l2 l3 =>
    have f1 := (put_ok (H := sumF) hi0 hfew la)
    rw [h1] at f1
    have f2 := (put_ok (H := sumF) f1.1 f1.2 lb)
    rw [h2] at f2
    have f3 := (put_ok (H := sumF) f2.1 f2.2 lb)
    rw [h3] at f3
    have P1 := Lib.hid (fun W F db (R : Run w W F db (newS 1048576)) => put_old ha R hT hfew (by omega) h1)
    have P2 := Lib.hid (fun W F db (R : Run w W F db S1) => put_old hb R hT f1.2 (by omega) h2)
    have P3 := Lib.hid (fun W F db (R : Run w W F db S2) => put_old hb R hT f2.2 (by omega) h3)
    have U2 := Lib.hid (fun W F db (R : Run w W F db S2) => lo_used R u2)
    have U3 := Lib.hid (fun W F db (R : Run w W F db S3) => lo_used R u3)
    have L2 := Lib.hid (fun W F db (R : Run w W F db S2) => listAll_any R hT f2.2 (by omega) l2)
    have L3 := Lib.hid (fun W F db (R : Run w W F db S3) => listAll_any R hT f3.2 (by omega) l3)
    clear ha hb hT hfew hi0 h1 h2 h3 u2 u3 l2 l3 f1 f2 f3 hla hlb
    go_enter Tryd.func5, Tryd.ntmps5
    go_wp2_with (first
      | (go_at_call 7; (with_reducible refine N1.out.mono ?_); rintro e w1 ⟨db, rfl, F1, hr⟩; have R1 := Lib.hid hr; clear hr)
      | (go_at_call 12; (with_reducible refine (P3.out _ _ _ R5.out).mono ?_); rintro e w6 ⟨a6, n6, c6, F6, rfl, _, hr, hs6, hl6⟩; have R6 := Lib.hid hr; have HI6 := Lib.hid (HI7.out.chg hs6.chg (fun h => by have := R3.out.1.lt _ h; omega)); clear hr)
      | (go_at_call 12; (with_reducible refine (P2.out _ _ _ R2.out).mono ?_); rintro e w3 ⟨a3, n3, c3, F3, rfl, _, hr, hb3, hl3⟩; have R3 := Lib.hid hr; clear hr)
      | (go_at_call 12; (with_reducible refine (P1.out _ _ _ R1.out).mono ?_); rintro e w2 ⟨a2, n2, c2, F2, rfl, _, hr, _, _⟩; have R2 := Lib.hid hr; clear hr)
      | ((with_reducible show wpList _ _ _ (⟨some 6, _, _, _, _, _⟩ :: _) _ _); refine alloc_id rfl rfl ?_; intro w4 hid4 hb4 hs4; have HB4 := Lib.hid hb4; clear hb4 hs4)
      | (refine store_id rfl (.tmp 6) (.tmp 30) rfl _ _ (sumF lb) rfl rfl hid4 hl3 ?_; intro w5 hid5 hg5 hs5; have R4 := Lib.hid (R3.out.below (HB4.out.grown hg5 HB4.out.size (fun k hk => by cases hk; exact Nat.le_refl _))); have HI5 := Lib.hid hid5; clear hg5 hs5 hid4)
      | (go_at_call 20; (with_reducible refine (U3.out _ _ _ R9.out).mono ?_); rintro e _ ⟨rfl, rfl⟩)
      | (go_at_call 20; (with_reducible refine (U2.out _ _ _ R4.out).mono ?_); rintro e _ ⟨rfl, rfl⟩)
      | (go_at_call 18; (with_reducible refine (L3.out _ _ _ R9.out).mono ?_); rintro e w10 ⟨a10, c10, rfl, _, hr, hb10⟩; have R10 := Lib.hid hr; clear hr hb10)
      | (go_at_call 18; (with_reducible refine (L2.out _ _ _ R4.out).mono ?_); rintro e w7 ⟨a7, c7, rfl, _, hr, hb7⟩; have R5 := Lib.hid hr; have HI7 := Lib.hid (HI5.out.chg (X := fun _ => False) (Chg.of_below hb7) (fun e => e)); clear hr hb7)
      | ((with_reducible show wpList _ _ _ (⟨some 11, _, _, _, _, _⟩ :: _) _ _); refine alloc_id rfl rfl ?_; intro w8 hid8 hb8 hs8; have HB8 := Lib.hid hb8; clear hb8 hs8)
      | (refine store_id rfl (.tmp 11) (.tmp 42) rfl _ _ (sumF lb) rfl rfl hid8 hl6 ?_; intro w9 hid9 hg9 hs9; have R9 := Lib.hid (R6.out.below (HB8.out.grown hg9 HB8.out.size (fun k hk => by cases hk; exact Nat.le_refl _))); have HI9 := Lib.hid hid9; have HJ9 := Lib.hid ((HI6.out.chg (X := fun _ => False) (Chg.of_below HB8.out) (fun e => e)).chg (X := fun k => k = w6.heap.size) (Chg.refl.grown hg9 (fun k hk => by cases hk; exact .inl rfl)) (by have := HI6.out.lt; omega)); clear hg9 hs9 hid8)
      | ((with_reducible show wpList _ _ _ (⟨some 64, _, _, _, _, _⟩ :: _) _ _); refine wl_load (by rfl) (.tmp 11) rfl _ 0 _ HI9.out.1 rfl HI9.out.range ?_)
      | ((with_reducible show wpList _ _ _ (⟨some 65, _, _, _, _, _⟩ :: _) _ _); refine wl_load (by rfl) (.tmp 6) rfl _ 0 _ HJ9.out.1 rfl HJ9.out.range ?_)
      | ((with_reducible show wpList _ _ _ (⟨some 66, _, _, _, _, _⟩ :: _) _ _); refine wl_exL (by rfl) (exec_eqlSelf _ _ _ rfl (sumF lb) HI9.out.1 rfl rfl) ?_)
      | (go_at_call 15; (with_reducible refine (AW.out _ (run_bel R10.out)).mono ?_); rintro e w11 ⟨rfl, hb11⟩; have HB11 := Lib.hid hb11; clear hb11))
    go_ret
    exact ⟨rfl, R10.out.2.2.trans (HB11.out.mono R10.out.2.2.size)⟩
#print axioms looseTwice_any
end Go.Proofs.YtcnhifkpflaibaaDoor
