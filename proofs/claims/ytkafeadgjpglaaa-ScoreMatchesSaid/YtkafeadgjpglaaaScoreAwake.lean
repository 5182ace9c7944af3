/-
  The walk of awake: what the chapter's examples say.
-/
import Derived.Test.YtkafeadgjpglaaaMatchW
import Derived.Test.YtkafeadgjpglaaaScoreSame
namespace Go.Proofs.Ytkafeadgjpglaaa
open Go.RowKit

theorem inf_any (w : World) : Calls Try.prog 58 #[.int .i64 1] w fun e w' => e = .returned (.float .f64 9218868437227405312) ∧ w = w' := by
  have hf := frombits_run
  go_enter Try.func58, Try.ntmps58
  go_wp2
  go_ret
  exact ⟨rfl, rfl⟩

/-- No number, -0, +0. -/
def exL : List Nat := [9221120237041090561, 9223372036854775808, 0]
theorem exL64 : W64 exL := fun i => by
  match i with
  | 0 => decide
  | 1 => decide
  | 2 => decide
  | i + 3 => show (0 : Nat) < _; decide
theorem exRank : rankS exL = [2, 1, 0] := by
  refine ranked_unique exL64 (rankS_ranked exL64) ⟨by decide, ?_⟩
  decide +kernel
/-- (1, 3), (3, 2). -/
def exM : List (List Nat) := [[4607182418800017408, 4613937818241073152], [4613937818241073152, 4611686018427387904]]
theorem exCand : candM 4611686018427387904 exM 2 = [((0, 1), 4613937818241073152), ((1, 0), 4613937818241073152), ((1, 1), 4611686018427387904)] := by decide +kernel
def exV : List Nat := [4613937818241073152, 4613937818241073152, 4611686018427387904]
theorem exV64 : W64 exV := fun i => by
  match i with
  | 0 => decide
  | 1 => decide
  | 2 => decide
  | i + 3 => show (0 : Nat) < _; decide
theorem exRankV : rankS exV = [0, 1, 2] := by
  refine ranked_unique exV64 (rankS_ranked exV64) ⟨by decide, ?_⟩
  decide +kernel
theorem exMatch : matchF 4611686018427387904 exM = [(0, 1), (1, 0)] := by
  have e : (candM 4611686018427387904 exM exM.length).map Prod.snd = exV := by
    rw [show exM.length = 2 from rfl, exCand]; rfl
  have e2 : (candM 4611686018427387904 exM exM.length).map Prod.fst = [(0, 1), (1, 0), (1, 1)] := by
    rw [show exM.length = 2 from rfl, exCand]; rfl
  unfold matchF
  rw [e, e2, exRankV]
  decide +kernel
theorem exQuo : floatBits .quo .f64 13830554455654793216 9218868437227405312 = some 9223372036854775808 := by decide +kernel
theorem exHalf : floatBits .quo .f64 (floatOfInt .f64 1) (floatOfInt .f64 2) = some 4602678819172646912 := by decide +kernel
theorem exNone : floatBits .quo .f64 (floatOfInt .f64 (2 * 0)) (floatOfInt .f64 (0 + 0)) = none := by decide +kernel
theorem exSame : (FloatKind.f64.format.order 4602678819172646912 4602678819172646912 == some .eq) = true := by decide +kernel

theorem fop_is {op : BinOp} {x y r q : Nat} (h : FOp op x y r) (hq : floatBits op .f64 x y = some q) : r = q := by unfold FOp at h; rw [hq] at h; exact h
theorem fop_nan {op : BinOp} {x y r : Nat} (h : FOp op x y r) (hq : floatBits op .f64 x y = none) : nanB r = true := by unfold FOp at h; rw [hq] at h; exact h.1
theorem wl_fop_some {w : World} {ops : Array Oper} {rest : List Oper} {o : Oper} {a : Act} {Q : Exit → Act → World → Prop} (hw : Region.wanted o (yielded ops a.tmps) = true) (op : BinOp) (hop : op = .add ∨ op = .quo) (x y : Operand) (r : TypeId) (ho : o.op = .binOp op 23 x y r)
    (b1 b2 q : Nat) (hx : a.eval x = .float .f64 b1) (hy : a.eval y = .float .f64 b2) (hq : floatBits op .f64 b1 b2 = some q)
    (h : wpList Try.prog ops Q rest (a.put o.dst (.float .f64 q)) w) : wpList Try.prog ops Q (o :: rest) a w := by
  have hr := run_float_arith (P := Try.prog) w op 23 .f64 b1 b2 q hq
  have hg : (eqGuard op 23 x y (.float .f64 b1) (.float .f64 b2)).run Try.prog w = .ok () w := by
    rcases hop with rfl | rfl <;> rfl
  unfold wpList
  rw [if_pos hw]
  refine .inl ?_
  unfold Oper.wp execOp
  simp only [ho, hx, hy, Sem.run_bind, hg, hr, Result.andThen_ok, Sem.run_pure]
  exact h

theorem at1_lit3 (mk : Nat → Value) (w : World) (ty : TypeId) (x y z : Nat) : At1 mk (w.alloc (.cells #[mk x, mk y, mk z] ty)) (some ⟨w.heap.size, 0, none⟩) 3 3 [x, y, z] :=
  ⟨rfl, Nat.le_refl _, by omega, .inr ⟨_, 0, rfl, fun j hj => by
    have hc : j = 0 ∨ j = 1 ∨ j = 2 := by omega
    rcases hc with rfl | rfl | rfl <;> simp⟩⟩
theorem at1_lit2 (mk : Nat → Value) (w : World) (ty : TypeId) (x y : Nat) : At1 mk (w.alloc (.cells #[mk x, mk y] ty)) (some ⟨w.heap.size, 0, none⟩) 2 2 [x, y] :=
  ⟨rfl, Nat.le_refl _, by omega, .inr ⟨_, 0, rfl, fun j hj => by
    have hc : j = 0 ∨ j = 1 := by omega
    rcases hc with rfl | rfl <;> simp⟩⟩
theorem mat_lit (w : World) (ty : TypeId) :
    MatAt (((w.alloc (.cells #[.float .f64 4607182418800017408, .float .f64 4613937818241073152] ty)).alloc (.cells #[.float .f64 4613937818241073152, .float .f64 4611686018427387904] ty)).alloc (.cells #[.slice (some ⟨w.heap.size, 0, none⟩) 2 2, .slice (some ⟨w.heap.size + 1, 0, none⟩) 2 2] 29)) (some ⟨w.heap.size + 1 + 1, 0, none⟩) 2 2 exM := by
  have h1 := at1_lit2 F w ty 4607182418800017408 4613937818241073152
  have h2 := at1_lit2 F (w.alloc (.cells #[.float .f64 4607182418800017408, .float .f64 4613937818241073152] ty)) ty 4613937818241073152 4611686018427387904
  generalize hA : w.alloc (.cells #[.float .f64 4607182418800017408, .float .f64 4613937818241073152] ty) = A at h1 h2 ⊢
  have sA : A.heap.size = w.heap.size + 1 := by rw [← hA]; simp
  rw [sA] at h2
  generalize hB : A.alloc (.cells #[.float .f64 4613937818241073152, .float .f64 4611686018427387904] ty) = B at h2 ⊢
  have sB : B.heap.size = w.heap.size + 1 + 1 := by rw [← hB]; simp [sA]
  have bAB : Below A.heap.size A B := by rw [← hB]; exact (Below.refl _ _).alloc (Nat.le_refl _) _
  have bBC : Below B.heap.size B (B.alloc (.cells #[.slice (some ⟨w.heap.size, 0, none⟩) 2 2, .slice (some ⟨w.heap.size + 1, 0, none⟩) 2 2] 29)) := (Below.refl _ _).alloc (Nat.le_refl _) _
  have k1 := (h1.below bAB).below bBC
  have k2 := h2.below bBC
  refine ⟨rfl, Nat.le_refl _, by omega, .inr ⟨_, 0, rfl, fun j hj => ?_⟩⟩
  have hc : j = 0 ∨ j = 1 := by omega
  rw [← sB]
  rcases hc with rfl | rfl
  · exact ⟨_, _, by simp [exM], k1⟩
  · exact ⟨_, _, by simp [exM], k2⟩
theorem exM64 : ∀ r, W64 (exM.getD r []) := fun r i => by
  match r with
  | 0 => match i with
    | 0 => decide
    | 1 => decide
    | i + 2 => show (0 : Nat) < _; decide
  | 1 => match i with
    | 0 => decide
    | 1 => decide
    | i + 2 => show (0 : Nat) < _; decide
  | r + 2 => show (([] : List Nat).getD i 0) < _; simp
theorem exM_le : ∀ r, (exM.getD r []).length ≤ 1000 := fun r => by
  match r with
  | 0 => decide
  | 1 => decide
  | r + 2 => show ([] : List Nat).length ≤ 1000; decide

theorem exMatch_any (a : Option Addr) (w : World) (h : MatAt w a 2 2 exM) : Calls Try.prog 32 #[.slice a 2 2, .float .f64 4611686018427387904] w fun e w' => ∃ a1 c1, e = .returned (.slice a1 2 c1) ∧ At2 w' a1 2 c1 [(0, 1), (1, 0)] ∧ Below w.heap.size w w' := by
  refine (match_any a 2 2 exM 4611686018427387904 w h exM64 (by decide) (by decide) exM_le).mono ?_
  rintro e w' ⟨a1, n1, c1, rfl, h1, h2⟩
  rw [exMatch] at h1
  obtain rfl : 2 = n1 := h1.1
  exact ⟨a1, c1, rfl, h1, h2⟩
theorem exRank_any (a : Option Addr) (w : World) (h : At1 F w a 3 3 exL) : Calls Try.prog 25 #[.slice a 3 3] w fun e w' => ∃ a1 c1, e = .returned (.slice a1 3 c1) ∧ At1 N w' a1 3 c1 [2, 1, 0] ∧ Below w.heap.size w w' := by
  refine (rank_any a 3 3 exL w h exL64 (by decide)).mono ?_
  rintro e w' ⟨a1, c1, rfl, h1, h2, _⟩
  rw [exRank] at h1
  exact ⟨a1, c1, rfl, h1, h2⟩
theorem exLike_any (w : World) : Calls Try.prog 18 #[.int .i64 0, .int .i64 0, .int .i64 0] w fun e w' => ∃ r, e = .returned (.float .f64 r) ∧ true = nanB r ∧ Below w.heap.size w w' := by
  refine (like_any 0 0 0 w).mono ?_
  rintro e w' ⟨r, rfl, h | h, hb⟩
  · exact ⟨r, rfl, (fop_nan h.2.2.2 exNone).symm, hb⟩
  · exact absurd ⟨⟨by decide, by decide⟩, ⟨by decide, by decide⟩, by decide, by decide⟩ h.1
theorem exHalf_any (w : World) : Calls Try.prog 16 #[.int .i64 1, .int .i64 2] w fun e w' => e = .returned (.float .f64 4602678819172646912) ∧ Below w.heap.size w w' := by
  refine (ratio_any 1 2 w).mono ?_
  rintro e w' ⟨r, rfl, hr, hb⟩
  rw [fop_is hr exHalf]
  exact ⟨rfl, hb⟩
theorem run_pairs2 (w : World) (p q : Nat × Nat) : (Instr.buildSlice 41 2 #[(0, .agg #[N p.1, N p.2]), (1, .agg #[N q.1, N q.2])]).run Try.prog w = .ok (.slice (some ⟨w.heap.size, 0, none⟩) 2 2) (w.alloc (.cells #[N p.1, N p.2, N q.1, N q.2] 48)) := by kernel_rfl
theorem wl_pairs2 {w : World} {ops : Array Oper} {rest : List Oper} {o : Oper} {a : Act} {Q : Exit → Act → World → Prop} (hw : Region.wanted o (yielded ops a.tmps) = true) (x y : Operand) (ho : o.op = .buildSlice 41 2 #[(0, x), (1, y)])
    (p q : Nat × Nat) (hx : a.eval x = .agg #[N p.1, N p.2]) (hy : a.eval y = .agg #[N q.1, N q.2])
    (h : wpList Try.prog ops Q rest (a.put o.dst (.slice (some ⟨w.heap.size, 0, none⟩) 2 2)) (w.alloc (.cells #[N p.1, N p.2, N q.1, N q.2] 48))) : wpList Try.prog ops Q (o :: rest) a w := by
  unfold wpList
  rw [if_pos hw]
  refine .inl ?_
  unfold Oper.wp
  have hr : (execOp a.eval o).run Try.prog w = .ok (.value (.slice (some ⟨w.heap.size, 0, none⟩) 2 2)) (w.alloc (.cells #[N p.1, N p.2, N q.1, N q.2] 48)) := by
    unfold execOp
    simp only [ho, List.map_toArray, List.map_cons, List.map_nil, hx, hy, Sem.run_bind, run_pairs2 w p q, Result.andThen_ok, Sem.run_pure]
  rw [hr]
  exact h
theorem at2_lit (w : World) (p q : Nat × Nat) : At2 (w.alloc (.cells #[N p.1, N p.2, N q.1, N q.2] 48)) (some ⟨w.heap.size, 0, none⟩) 2 2 [p, q] :=
  ⟨rfl, Nat.le_refl _, by omega, .inr ⟨_, 0, rfl, fun j v hv => by
    have e : flat2 [p, q] = [N p.1, N p.2, N q.1, N q.2] := rfl
    rw [e] at hv
    match j with
    | 0 => simp at hv; subst hv; simp
    | 1 => simp at hv; subst hv; simp
    | 2 => simp at hv; subst hv; simp
    | 3 => simp at hv; subst hv; simp
    | j + 4 => simp at hv⟩⟩
def Yes (w : World) (e : Ending) (w' : World) : Prop := e = .returned (.bool true) ∧ Below w.heap.size w w'
theorem ints_yes (a : Option Addr) (n c : Nat) (l : List Nat) (b : Option Addr) (m d : Nat) (k : List Nat) (w : World) (ha : At1 N w a n c l) (hb : At1 N w b m d k) (hn : n ≤ 1000000000) (h : l = k) :
    Calls Try.prog 24 #[.slice a n c, .slice b m d] w (Yes w) := by
  refine (ints_any a n c l b m d k w ha hb hn).mono ?_
  rintro e w' ⟨rfl, h1⟩
  rw [decide_eq_true h]
  exact ⟨rfl, h1⟩
theorem pairs_yes (a : Option Addr) (n c : Nat) (l : List (Nat × Nat)) (b : Option Addr) (m d : Nat) (k : List (Nat × Nat)) (w : World) (ha : At2 w a n c l) (hb : At2 w b m d k) (hn : n ≤ 1000000000) (h : l = k) :
    Calls Try.prog 31 #[.slice a n c, .slice b m d] w (Yes w) := by
  refine (pairs_any a n c l b m d k w ha hb hn).mono ?_
  rintro e w' ⟨rfl, h1⟩
  rw [decide_eq_true h]
  exact ⟨rfl, h1⟩

theorem al_size (w : World) (o : Obj) : (w.alloc o).heap.size = w.heap.size + 1 := by simp
theorem chain1 {w w2 : World} {o1 : Obj} (h : Below (w.alloc o1).heap.size (w.alloc o1) w2) : Below w.heap.size w w2 :=
  ((Below.refl w.heap.size w).alloc (Nat.le_refl _) o1).trans (h.mono (by rw [al_size]; omega))
theorem chain3 {w w2 : World} {o1 o2 o3 : Obj} (h : Below (((w.alloc o1).alloc o2).alloc o3).heap.size (((w.alloc o1).alloc o2).alloc o3) w2) : Below w.heap.size w w2 :=
  chain1 (chain1 (chain1 h))
theorem Below.step {a b c : World} (h : Below a.heap.size a b) (k : Below b.heap.size b c) : Below a.heap.size a c := h.trans (k.mono h.size)

set_option maxRecDepth 100000 in
set_option maxHeartbeats 2000000 in
theorem awake_any (w : World) : Calls Try.prog 20 #[] w (Yes w) := by
  have hsame := exSame
  go_enter Try.func20, Try.ntmps20
  go_wp2_with (first
    | (go_at_call 37; (with_reducible refine (nan_any _).mono ?_); rintro e w9 ⟨rfl, rfl⟩)
    | (go_at_call 58; (with_reducible refine (inf_any _).mono ?_); rintro e w9 ⟨rfl, rfl⟩)
    | ((with_reducible show wpList _ _ _ (⟨some 6, _, _, _, _, _⟩ :: _) _ _); refine wl_fop_some (wanted_plain rfl) .quo (.inr rfl) _ _ _ rfl 13830554455654793216 9218868437227405312 9223372036854775808 rfl rfl exQuo ?_)
    | ((with_reducible show wpList _ _ _ (⟨some 25, _, _, _, _, _⟩ :: _) _ _); refine wl_pairs2 (by rfl) _ _ rfl (0, 1) (1, 0) rfl rfl ?_)
    | (go_at_call 25; (with_reducible refine (exRank_any _ _ (at1_lit3 F _ _ 9221120237041090561 9223372036854775808 0)).mono ?_); rintro e w1 ⟨aR, cR, rfl, hR, hb1⟩; have HR := Lib.hid hR; have HB1 := Lib.hid (chain1 hb1); clear hR hb1)
    | (go_at_call 32; (with_reducible refine (exMatch_any _ _ (mat_lit w1 _)).mono ?_); rintro e w2 ⟨aM, cM, rfl, hM, hb2⟩; have HM := Lib.hid hM; have HB2 := Lib.hid (chain3 hb2); clear hM hb2)
    | (go_at_call 18; (with_reducible refine (exLike_any _).mono ?_); rintro e w3 ⟨r, rfl, hr, hb3⟩; have HNR := Lib.hid hr; have HB3 := Lib.hid hb3; clear hr hb3)
    | (go_at_call 35; (with_reducible refine (isNaN_is r true _ HNR.out).mono ?_); rintro e w9 ⟨rfl, rfl⟩)
    | (go_at_call 24; have hlit : At1 N (w3.alloc (.cells #[.int .i64 2, .int .i64 1, .int .i64 0] 3)) (some ⟨w3.heap.size, 0, none⟩) 3 3 [2, 1, 0] := at1_lit3 N w3 _ 2 1 0; (with_reducible refine (ints_yes aR 3 cR [2, 1, 0] _ 3 3 [2, 1, 0] _ (HR.out.below (Below.step (Below.step HB2.out HB3.out) (chain1 (Below.refl _ _)))) hlit (by decide) rfl).mono ?_); rintro e w4 ⟨rfl, hb4⟩; clear hlit; have HB4 := Lib.hid (chain1 hb4); clear hb4)
    | (go_at_call 31; (with_reducible refine (pairs_yes aM 2 cM [(0, 1), (1, 0)] _ 2 2 [(0, 1), (1, 0)] _ (HM.out.below (Below.step (Below.step HB3.out HB4.out) (chain1 (Below.refl _ _)))) (at2_lit w4 (0, 1) (1, 0)) (by decide) rfl).mono ?_); rintro e w5 ⟨rfl, hb5⟩; have HB5 := Lib.hid (chain1 hb5); clear hb5)
    | (go_at_call 16; (with_reducible refine (exHalf_any _).mono ?_); rintro e w6 ⟨rfl, hb6⟩; have HB6 := Lib.hid hb6; clear hb6))
  go_ret
  exact ⟨rfl, Below.step (Below.step (Below.step (Below.step (Below.step HB1.out HB2.out) HB3.out) HB4.out) HB5.out) HB6.out⟩
end Go.Proofs.Ytkafeadgjpglaaa
