/-
  The walk of LebBack: what was written is read, whatever stands around it.
-/
import Derived.Test.YtkjgcgdfofheeaaPutId
import Derived.Test.YtkjgcgdfofheeaaText
import Derived.Test.YtkjgcgdfofheeaaGetText
import Derived.Test.YtkjgcgdfofheeaaGetId
import Derived.Test.YtkjgcgdfofheeaaAwake
namespace Go.Proofs.Ytkjgcgdfofheeaa
open Go.RowKit

/-- A block that holds a struct that was boxed. -/
def BoxAt (w : World) (g : Nat) (t : TypeId) (cs : Array Value) : Prop := w.heap[g]? = some (.cells cs t (0, 0))
theorem BoxAt.new (w : World) (t : TypeId) (cs : Array Value) : BoxAt (w.alloc (.cells cs t)) w.heap.size t cs := heap_alloc_new w _
theorem BoxAt.lt {w : World} {g : Nat} {t : TypeId} {cs : Array Value} (h : BoxAt w g t cs) : g < w.heap.size := by
  rcases Nat.lt_or_ge g w.heap.size with h' | h'
  · exact h'
  · unfold BoxAt at h; rw [Array.getElem?_eq_none h'] at h; cases h
theorem BoxAt.below {w w' : World} {g : Nat} {t : TypeId} {cs : Array Value} (h : BoxAt w g t cs) (hb : Below w.heap.size w w') : BoxAt w' g t cs := by unfold BoxAt; rw [hb.block g h.lt]; exact h
theorem BoxAt.grown {w w' : World} {g : Nat} {t : TypeId} {cs : Array Value} {row : Option Nat} (h : BoxAt w g t cs) (hg : w.grownBy w' row) (hr : some g ≠ row) : BoxAt w' g t cs := by unfold BoxAt; rw [hg.block g h.lt hr]; exact h
theorem BoxAt.cell {w : World} {g : Nat} {t : TypeId} {cs : Array Value} (h : BoxAt w g t cs) {j : Nat} {v : Value} (hv : cs[j]? = some v) : w.cell? ⟨g, j, none⟩ = some v := by
  rw [cell_of_row w g j cs t (0, 0) h]; exact hv

theorem wpList_guarded {P : Program} {w w' : World} {ops : Array Oper} {rest : List Oper} {o : Oper} {a : Act} {Q : Exit → Act → World → Prop} {v : Value} (hw : Region.wanted o (yielded ops a.tmps) = true)
    (hr : (execOp a.eval o).run P w = .ok (.value v) w') (h : wpList P ops Q rest (a.put o.dst v) w') : wpList P ops Q (o :: rest) a w := by
  unfold wpList
  rw [if_pos hw]
  exact .inl (by unfold Oper.wp; rw [hr]; exact h)

theorem load_id_g {w : World} {ops : Array Oper} {rest : List Oper} {o : Oper} {a : Act} {Q : Exit → Act → World → Prop} (hw : Region.wanted o (yielded ops a.tmps) = true) (x : Operand) (ho : o.op = .load 41 x)
    (g : Nat) (l : List UInt8) (hx : a.eval x = .pointer (some ⟨g, 0, none⟩)) (hg : IdAt w g l)
    (h : wpList Try.prog ops Q rest (a.put o.dst (.agg (idCells l))) w) :
    wpList Try.prog ops Q (o :: rest) a w := by
  refine wpList_guarded hw ?_ h
  unfold execOp
  simp only [ho, hx, Instr.loadAt, Instr.sureAddr, Sem.run_bind, Sem.run_pure, Result.andThen_ok, run_load_id hg]

theorem run_load_mid {w : World} (b off : Nat) (l : List UInt8) (hl : l.length = 32) (hc : ∀ j, j < 32 → w.cell? ⟨b, off + j, none⟩ = some (.int .u8 ((l.getD j 0).toNat : Int))) :
    (loadVar 41 ⟨b, off, none⟩).run Try.prog w = .ok (.agg (l.map B).toArray) w :=
  run_loadVar_mid (P := Try.prog) w b off 41 (l.map B) _ (fun j v hj => by
    rw [List.getElem?_map] at hj
    have hjl : j < l.length := by
      rcases Nat.lt_or_ge j l.length with h | h
      · exact h
      · rw [List.getElem?_eq_none h] at hj; cases hj
    simp only [List.getElem?_eq_getElem hjl, Option.map_some, Option.some.injEq] at hj
    subst hj
    rw [hc j (by omega)]
    simp [B, hjl]) Try.underlying41 rfl (by simp only [List.length_map, hl]; exact info_id)

theorem load_mid_g {w : World} {ops : Array Oper} {rest : List Oper} {o : Oper} {a : Act} {Q : Exit → Act → World → Prop} (hw : Region.wanted o (yielded ops a.tmps) = true) (x : Operand) (ho : o.op = .load 41 x)
    (b off : Nat) (l : List UInt8) (hx : a.eval x = .pointer (some ⟨b, off, none⟩)) (hl : l.length = 32) (hc : ∀ j, j < 32 → w.cell? ⟨b, off + j, none⟩ = some (.int .u8 ((l.getD j 0).toNat : Int)))
    (h : wpList Try.prog ops Q rest (a.put o.dst (.agg (idCells l))) w) :
    wpList Try.prog ops Q (o :: rest) a w := by
  have hr := run_load_mid b off l hl hc
  refine wpList_guarded hw ?_ h
  unfold execOp
  simp only [ho, hx, Instr.loadAt, Instr.sureAddr, Sem.run_bind, Sem.run_pure, Result.andThen_ok, hr]
  rfl

theorem eql_id_g {w : World} {ops : Array Oper} {rest : List Oper} {o : Oper} {a : Act} {Q : Exit → Act → World → Prop} (hw : Region.wanted o (yielded ops a.tmps) = true) (x y : Operand) (r : TypeId) (ho : o.op = .binOp .eql 41 x y r)
    (l : List UInt8) (hl : l.length = 32) (hx : a.eval x = .agg (idCells l)) (hy : a.eval y = .agg (idCells l))
    (h : wpList Try.prog ops Q rest (a.put o.dst (.bool true)) w) :
    wpList Try.prog ops Q (o :: rest) a w := by
  refine wpList_guarded hw ?_ h
  unfold execOp
  simp only [ho, hx, hy, Sem.run_bind, run_eqGuard_agg w _ _ _ _ _ _ noGuard_id, Result.andThen_ok, run_eql_struct, run_eq_id w hl, Sem.run_pure]

/-- What Get answers where a number was written. -/
theorem getI_back (A R : List UInt8) (k : Nat) (hk : k < 9223372036854775808) : getI (A ++ (numF k ++ R)) (A.length : Int) = (k, A.length + (numF k).length, 0) := by
  unfold getI
  rw [if_neg (by simp; omega)]
  unfold getR
  rw [show ((A.length : Int)).toNat = A.length from by omega, List.drop_left, getGo_back 9 0 0 k R (by simpa using hk) (by omega) (by omega)]
  simp

theorem getT_back (A R sl : List UInt8) (hs : sl.length < 9223372036854775808) : getT (A ++ (numF sl.length ++ (sl ++ R))) (A.length : Int) (sl.length : Int) = (sl, A.length + (numF sl.length).length + sl.length, 0) := by
  unfold getT
  rw [getI_back A (sl ++ R) sl.length hs]
  simp only []
  rw [if_neg (by omega), if_neg (by simp; omega)]
  rw [← List.append_assoc, ← List.append_assoc, show A.length + (numF sl.length).length = (A ++ numF sl.length).length from by simp, List.append_assoc (A ++ numF sl.length), List.drop_left, List.take_left]

theorem getD_back (A R il : List UInt8) (hi : il.length = 32) : getD_ (A ++ (il ++ R)) (A.length : Int) = (il, A.length + 32, 0) := by
  unfold getD_
  rw [if_neg (by simp; omega), if_neg (by simp; omega), show ((A.length : Int)).toNat = A.length from by omega, List.drop_left, ← hi, List.take_left]

set_option maxRecDepth 100000 in
set_option maxHeartbeats 400000 in
theorem back_neg (cs : Array Value) (m : Int) (w : World) (h2 : cs[2]? = some (.int .i64 m)) (hm : m < 0) :
    Calls Try.prog 6 #[.agg cs] w fun e w' => e = .returned (.bool true) ∧ Below w.heap.size w w' := by
  have hbel : Below w.heap.size w (w.alloc (.cells cs 52)) := (Below.refl _ _).alloc (Nat.le_refl _) _
  have k2 := (BoxAt.new w 52 cs).cell h2
  go_enter Try.func6, Try.ntmps6
  go_wp2_with (go_at_call 11; go_must (refine (awake_any _).mono ?_); rintro e w10 ⟨rfl, hbel10⟩)
  go_ret
  exact ⟨rfl, hbel.trans (hbel10.mono hbel.size)⟩
set_option maxRecDepth 100000 in
set_option maxHeartbeats 2000000 in
theorem back_ok (cs : Array Value) (a0 a1 : Option Addr) (n0 c0 n1 c1 k : Nat) (l0 l1 il : List UInt8) (s : ByteArray) (w : World)
    (h0 : cs[0]? = some (.slice a0 n0 c0)) (h1 : cs[1]? = some (.slice a1 n1 c1)) (h2 : cs[2]? = some (.int .i64 (k : Int))) (h3 : cs[3]? = some (.string s)) (h4 : ∀ j, j < 32 → cs[4 + j]? = some (.int .u8 ((il.getD j 0).toNat : Int)))
    (hi : il.length = 32) (hb0 : Bytes w a0 n0 c0 l0) (hb1 : Bytes w a1 n1 c1 l1) (hk : k < 9223372036854775808) (hl0 : l0.length ≤ 2000000) (hl1 : l1.length ≤ 2000000) (hs : s.size ≤ 2000000) :
    Calls Try.prog 6 #[.agg cs] w fun e w' => e = .returned (.bool true) ∧ Below w.heap.size w w' := by
  have hbel : Below w.heap.size w (w.alloc (.cells cs 52)) := (Below.refl _ _).alloc (Nat.le_refl _) _
  have HX := Lib.hid (BoxAt.new w 52 cs)
  have k2 := HX.out.cell h2
  have k0 := HX.out.cell h0
  have B0 := Lib.hid (hb0.below hbel)
  have B1 := Lib.hid (hb1.below hbel)
  have H0 := Lib.hid h0
  have H1 := Lib.hid h1
  have H2 := Lib.hid h2
  have H3 := Lib.hid h3
  have H4 := Lib.hid h4
  have HI := Lib.hid hi
  have HL0 := Lib.hid hl0
  have HL1 := Lib.hid hl1
  have HS := Lib.hid hs
  have HN0 := Lib.hid hb0.1
  have hN0 : n0 ≤ 9223372036854775807 := by have := hb0.2.1; have := hb0.2.2.1; omega
  have HN1 := Lib.hid hb1.1
  have hN1 : n1 ≤ 9223372036854775807 := by have := hb1.2.1; have := hb1.2.2.1; omega
  have HK9 := Lib.hid (numF_length_le9 k (by omega))
  have HS9 := Lib.hid (numF_length_le9 s.size (by omega))
  have HBL := Lib.hid hbel
  obtain ⟨sl, hsl⟩ : ∃ sl, sl = s.data.toList := ⟨_, rfl⟩
  have hssz : s.size = sl.length := by rw [hsl]; simp
  have HSSZ := Lib.hid hssz
  have HSL := Lib.hid hsl
  obtain ⟨q1, hq1⟩ : ∃ q, q = l0 ++ numF k := ⟨_, rfl⟩
  obtain ⟨q2, hq2⟩ : ∃ q, q = q1 ++ (numF s.size ++ sl) := ⟨_, rfl⟩
  obtain ⟨q3, hq3⟩ : ∃ q, q = q2 ++ il := ⟨_, rfl⟩
  obtain ⟨q4, hq4⟩ : ∃ q, q = q3 ++ l1 := ⟨_, rfl⟩
  have e1 : q1.length = l0.length + (numF k).length := by rw [hq1]; simp
  have e2 : q2.length = q1.length + (numF s.size).length + sl.length := by rw [hq2]; simp; omega
  have e3 : q3.length = q2.length + 32 := by rw [hq3]; simp [hi]
  have e4 : q4.length = q3.length + l1.length := by rw [hq4]; simp
  have G1 : getI q4 (l0.length : Int) = (k, q1.length, 0) := by
    rw [hq4, hq3, hq2, hq1]
    simp only [List.append_assoc]
    rw [getI_back l0 _ k hk, List.length_append]
  have G2 : getT q4 (q1.length : Int) (s.size : Int) = (sl, q2.length, 0) := by
    rw [e2, hq4, hq3, hq2, hssz]
    simp only [List.append_assoc]
    rw [getT_back q1 _ sl (by omega)]
  have G3 : getD_ q4 (q2.length : Int) = (il, q3.length, 0) := by
    rw [e3, hq4, hq3]
    simp only [List.append_assoc]
    rw [getD_back q2 _ il hi]
  have HG1 := Lib.hid G1
  have HG2 := Lib.hid G2
  have HG3 := Lib.hid G3
  have HQ1 := Lib.hid hq1
  have HQ2 := Lib.hid hq2
  have HQ3 := Lib.hid hq3
  have HQ4 := Lib.hid hq4
  have E1 := Lib.hid e1
  have E2 := Lib.hid e2
  have E3 := Lib.hid e3
  have E4 := Lib.hid e4
  clear G1 G2 G3 hq1 hq2 hq3 hq4 e1 e2 e3 e4 h0 h1 h2 h3 h4 hi hb0 hb1 hl0 hl1 hs hsl hssz hbel
  have HK := Lib.hid hk
  clear hk
  go_enter Try.func6, Try.ntmps6
  go_wp2_with fail
  refine (put_any _ _ _ _ _ _ B0.out HK.out (by have := HL0.out; omega)).mono ?_
  rintro e w1 ⟨a2, n2, c2, rfl, hown1, hb1⟩
  rw [← HQ1.out] at hown1
  have hbox1 := HX.out.below hb1
  have hB1 := HBL.out.trans (hb1.mono HBL.out.size)
  have k3 := hbox1.cell H3.out
  have BB1 := Lib.hid (B1.out.below hb1)
  clear k2 k0 hb1
  go_wp2_with fail
  refine (putText_any _ _ _ _ _ _ hown1.isBytes (by have := HS.out; omega) (by have := HS.out; have := E1.out; have := HL0.out; have := HK9.out; omega)).mono ?_
  rintro e w2 ⟨a3, n3, c3, rfl, hown2, hb2⟩
  rw [← HSL.out, ← HQ2.out] at hown2
  have hbox2 := hbox1.below hb2
  have hB2 := hB1.trans (hb2.mono hB1.size)
  have BB2 := Lib.hid (BB1.out.below hb2)
  clear k3 hb2 hbox1 hown1
  go_wp2_with ((with_reducible show wpList _ _ _ (⟨some 30, _, _, _, _, _⟩ :: _) _ _); go_must (refine load_mid rfl (.tmp 29) rfl w.heap.size 4 il rfl HI.out (fun j hj => hbox2.cell (H4.out j hj)) ?_))
  refine (putId_any _ _ _ _ _ _ hown2.isBytes HI.out (by have := HS.out; have := E1.out; have := E2.out; have := HL0.out; have := HK9.out; have := HS9.out; have := HSSZ.out; omega)).mono ?_
  rintro e w3 ⟨a4, n4, c4, rfl, hown3, hb3⟩
  rw [← HQ3.out] at hown3
  have hbox3 := hbox2.below hb3
  have hB3 := hB2.trans (hb3.mono hB2.size)
  have BB3 := Lib.hid (BB2.out.below hb3)
  have k1 := hbox3.cell H1.out
  have hsz2 := hbox2.lt
  have hlen3 := Lib.hid (show q3.length + n1 ≤ 140737488355328 by have := HS.out; have := E1.out; have := E2.out; have := E3.out; have := HL0.out; have := HK9.out; have := HS9.out; have := HSSZ.out; have := HL1.out; have := HN1.out; omega)
  clear hbox2 hown2
  go_wp2_with ((with_reducible show wpList _ _ _ (⟨some 35, _, _, _, _, _⟩ :: _) _ _); go_must (refine app_bytes rfl (.tmp 32) (.tmp 34) rfl w2.heap.size (.slice a4 n4 c4) q3 rfl hown3 a1 n1 c1 l1 rfl BB3.out hlen3.out hb3.size ?_); intro v4 w4 hown4 hgr4; have hg4 := hown3.grown; have hB4 := hB3.grown hgr4 hB3.size (fun j hj => by have := hg4 j hj; omega); have hbox4 := hbox3.grown hgr4 (fun e => by have := hg4 _ e.symm; omega); rw [← HQ4.out] at hown4; obtain ⟨a5, n5, c5, hv5, hby5⟩ := hown4.bytes; obtain rfl := hv5; have HL5 := Lib.hid hby5.1; have hn5 := hby5.2.1; have hc5 := hby5.2.2.1; have HBY := Lib.hid hby5; clear hby5 hgr4 hg4 hown3 hown4 hB3 hbox3 hb3 hB2 k1; have k0 := hbox4.cell H0.out; have k3 := hbox4.cell H3.out; have HN := HN0.out; subst HN)
  refine (get_any _ _ _ _ _ _ HBY.out _ _ _ HG1.out).mono ?_
  rintro e w5 ⟨rfl, rfl⟩
  go_wp2_with fail
  refine (getText_any _ _ _ _ _ _ _ HBY.out).mono ?_
  rintro e w5 ⟨he, rfl⟩
  rw [HG2.out, show strB sl = s from by rw [HSL.out, strB_of]] at he
  obtain rfl : e = .returned (.tuple #[.string s, .int .i64 (q2.length : Int), .int .i64 ((0 : Nat) : Int)]) := he
  go_wp2_with fail
  refine (getId_any _ _ _ _ _ _ HBY.out).mono ?_
  rintro e w5 ⟨he, hb5⟩
  rw [HG3.out] at he
  obtain rfl : e = .returned (.tuple #[.agg (idCells il), .int .i64 (q3.length : Int), .int .i64 ((0 : Nat) : Int)]) := he
  have hB5 := hB4.trans (hb5.mono hB4.size)
  have hbox5 := hbox4.below hb5
  have hsub := Lib.hid (show (n5 : Int) - (q3.length : Int) = (n1 : Int) by have := HL5.out; have := E4.out; have := HN1.out; omega)
  have hqn : (q3.length : Int) ≤ (n5 : Int) := by have := hsub.out; omega
  clear k0 k3 hbox4 hb5 hB4
  go_wp2_with (first
    | ((with_reducible show wpList _ _ _ (⟨some 10, _, _, _, _, _⟩ :: _) _ _); refine alloc_id rfl rfl ?_; intro w6 hid6 hb6 hsz6; have HS6 := Lib.hid hsz6; clear hsz6)
    | ((with_reducible show wpList _ _ _ (⟨none, .store 41 _ _, _, _, _, _⟩ :: _) _ _); refine store_id rfl (.tmp 10) (.tmp 59) rfl _ _ il rfl rfl hid6 HI.out ?_; intro w7 hid7 hgr7 hsz7; have HS7 := Lib.hid hsz7; clear hsz7; have hbox7 := (hbox5.below hb6).grown hgr7 (by have := hbox5.lt; simp; omega); have hB7 := (hB5.trans (hb6.mono hB5.size)).grown hgr7 (by have := hB5.size; have := HS6.out; omega) (fun k hk => by have := hB5.size; simp at hk; omega); have k1 := hbox7.cell H1.out; have k2 := hbox7.cell H2.out; have k3 := hbox7.cell H3.out)
    | ((with_reducible show wpList _ _ _ (⟨some 85, _, _, _, _, _⟩ :: _) _ _); refine load_id_g (by rfl) (.tmp 10) rfl _ _ rfl hid7 ?_)
    | ((with_reducible show wpList _ _ _ (⟨some 87, _, _, _, _, _⟩ :: _) _ _); refine load_mid_g (by rfl) (.tmp 86) rfl w.heap.size 4 il rfl HI.out (fun j hj => hbox7.cell (H4.out j hj)) ?_)
    | ((with_reducible show wpList _ _ _ (⟨some 88, _, _, _, _, _⟩ :: _) _ _); refine eql_id_g (by rfl) (.tmp 85) (.tmp 87) _ rfl il HI.out rfl rfl ?_)
    | (go_at_call 11; go_must (refine (awake_any _).mono ?_); rintro e w10 ⟨rfl, hb10⟩))
  go_ret
  exact ⟨rfl, hB7.trans (hb10.mono hB7.size)⟩

theorem back_any (cs : Array Value) (a0 a1 : Option Addr) (n0 c0 n1 c1 : Nat) (m : Int) (l0 l1 il : List UInt8) (s : ByteArray) (w : World)
    (h0 : cs[0]? = some (.slice a0 n0 c0)) (h1 : cs[1]? = some (.slice a1 n1 c1)) (h2 : cs[2]? = some (.int .i64 m)) (h3 : cs[3]? = some (.string s)) (h4 : ∀ j, j < 32 → cs[4 + j]? = some (.int .u8 ((il.getD j 0).toNat : Int)))
    (hi : il.length = 32) (hb0 : Bytes w a0 n0 c0 l0) (hb1 : Bytes w a1 n1 c1 l1) (hm : m ≤ 9223372036854775807) (hl0 : l0.length ≤ 2000000) (hl1 : l1.length ≤ 2000000) (hs : s.size ≤ 2000000) :
    Calls Try.prog 6 #[.agg cs] w fun e w' => e = .returned (.bool true) ∧ Below w.heap.size w w' := by
  by_cases h : m < 0
  · exact back_neg cs m w h2 h
  · obtain ⟨k, rfl⟩ := Int.eq_ofNat_of_zero_le (show 0 ≤ m by omega)
    exact back_ok cs a0 a1 n0 c0 n1 c1 k l0 l1 il s w h0 h1 h2 h3 h4 hi hb0 hb1 (by omega) hl0 hl1 hs
#print axioms back_any
end Go.Proofs.Ytkjgcgdfofheeaa
