/-
 The walk of move: an update done to names and their ids.
-/
import Derived.Test.YthihmlojdopmfaaDoorRfInsert
import Derived.Test.YthihmlojdopmfaaDoorGrp1
import Derived.Great.BuildSlice
namespace Go.Proofs.YthihmlojdopmfaaDoor
open Go.RowKit

theorem list32 {l : List UInt8} (h : l.length = 32) : ∃ b0 b1 b2 b3 b4 b5 b6 b7 b8 b9 b10 b11 b12 b13 b14 b15 b16 b17 b18 b19 b20 b21 b22 b23 b24 b25 b26 b27 b28 b29 b30 b31, l = [b0, b1, b2, b3, b4, b5, b6, b7, b8, b9, b10, b11, b12, b13, b14, b15, b16, b17, b18, b19, b20, b21, b22, b23, b24, b25, b26, b27, b28, b29, b30, b31] := by
 match l, h with
 | [b0, b1, b2, b3, b4, b5, b6, b7, b8, b9, b10, b11, b12, b13, b14, b15, b16, b17, b18, b19, b20, b21, b22, b23, b24, b25, b26, b27, b28, b29, b30, b31], _ => exact ⟨b0, b1, b2, b3, b4, b5, b6, b7, b8, b9, b10, b11, b12, b13, b14, b15, b16, b17, b18, b19, b20, b21, b22, b23, b24, b25, b26, b27, b28, b29, b30, b31, rfl⟩
def moveF (L : List RName) (u : UpdV) : List RName × Nat :=
 if nameF u.name = false then ([], 10)
 else if (if thereF L u.name then (gd L (findF L u.name)).2 else idZero) ≠ u.old then ([], 15)
 else if thereF L u.name then
  if u.new = idZero then (L.eraseIdx (findF L u.name), 0) else (L.set (findF L u.name) ((gd L (findF L u.name)).1, u.new), 0)
 else if u.new = idZero then (L, 0)
 else if L.length = 64 then ([], 3)
 else (L.take (findF L u.name) ++ (u.name, u.new) :: L.drop (findF L u.name), 0)
def upC (u : UpdV) : Array Value := (upL u).toArray
theorem grown_below {w w' : World} (h : Below w.heap.size w w') (row : Option Nat) : w.grownBy w' row := ⟨h.os, h.tape, h.output, h.size, fun k hk _ => h.block k hk⟩
theorem told_later {w w' : World} {v v' : Value} (h : Told w' v v') (hb : Below w.heap.size w w') : Told w v v' := by
 rcases h with h | ⟨k, hk, hl⟩
 ·exact .inl h
 ·exact .inr ⟨k, hk, Nat.le_trans hb.size hl⟩
theorem up_name {w : World} {g : Nat} {E : TypeId} {u : UpdV} (h : RowAt w g E (upL u)) : w.cell? ⟨g, 1, none⟩ = some (.string (strB u.name)) := h.cell 1 rfl
theorem up_old {w : World} {g : Nat} {E : TypeId} {u : UpdV} (h : RowAt w g E (upL u)) : w.rangeAt g 2 (u.old.map B) :=
 h.range (l := [.int .u8 (u.kind : Int), .string (strB u.name)]) (m := u.old.map B) (r := u.new.map B) rfl
theorem up_new {w : World} {g : Nat} {E : TypeId} {u : UpdV} (hu : UpOk u) (h : RowAt w g E (upL u)) : w.rangeAt g 34 (u.new.map B) := by
 have := h.range (l := [.int .u8 (u.kind : Int), .string (strB u.name)] ++ u.old.map B) (m := u.new.map B) (r := []) (by simp [upL])
 simpa [hu.2.1] using this
theorem built_rn (s l : List UInt8) (hl : l.length = 32) : Tryd.prog.built NEf [(0, .string (strB s)), (1, .agg (idCells l))] = some (rnL (s, l)).toArray := by
 obtain ⟨b0, b1, b2, b3, b4, b5, b6, b7, b8, b9, b10, b11, b12, b13, b14, b15, b16, b17, b18, b19, b20, b21, b22, b23, b24, b25, b26, b27, b28, b29, b30, b31, rfl⟩ := list32 hl
 kernel_rfl
theorem exec_rn {w : World} {o : Oper} {a : Act} (x0 x1 : Operand) (ho : o.op = .build NEf #[(0, x0), (1, x1)]) (s l : List UInt8) (hl : l.length = 32) (p : ByteArray) (hp : p = strB s)
  (h0 : a.eval x0 = .string p) (h1 : a.eval x1 = .agg (idCells l)) : (execOp a.eval o).run Tryd.prog w = .ok (.value (.agg (rnL (s, l)).toArray)) w := by
 subst hp
 refine exec_build _ _ ho _ ?_
 have e : (#[(0, x0), (1, x1)].map fun (q : Nat × Operand) => (q.1, a.eval q.2)).toList = [(0, .string (strB s)), (1, .agg (idCells l))] := by simp [h0, h1]
 exact (congrArg _ e).trans (built_rn s l hl)
theorem fill_rn (x : RName) (hx : x.2.length = 32) (z : Value) (hz : z = .agg (rnL ([], zId)).toArray) : Instr.fill (fun i => some (i * 33, 33)) ((Array.range (1 * 33)).map (z.cells[· % z.cells.size]!)) [(0, .agg (rnL x).toArray)] = some (rnL x).toArray := by
 subst hz
 obtain ⟨s, l⟩ := x
 obtain ⟨b0, b1, b2, b3, b4, b5, b6, b7, b8, b9, b10, b11, b12, b13, b14, b15, b16, b17, b18, b19, b20, b21, b22, b23, b24, b25, b26, b27, b28, b29, b30, b31, rfl⟩ := list32 hx
 kernel_rfl
theorem sl_rn {ops : Array Oper} {rest : List Oper} {o : Oper} {a : Act} {w : World} {Q : Exit → Act → World → Prop} (hg : o.guard = none) (x : Operand) (ho : o.op = .buildSlice 33 1 #[(0, x)]) (X : RName) (hX : X.2.length = 32) (hx : a.eval x = .agg (rnL X).toArray)
  (h : wpList Tryd.prog ops Q rest (a.put o.dst (.slice (some ⟨w.heap.size, 0, none⟩) 1 1)) (w.alloc (.cells (rnL X).toArray NEf))) : wpList Tryd.prog ops Q (o :: rest) a w :=
 wpList_plain hg fun _ hK => by
  obtain ⟨i0, hi, hz0, hz1, hz2⟩ := info_parts infoNf
  refine wp_buildSlice 33 NEf 1 #[(0, x)] ho (rnL X).toArray i0 _ Tryd.underlying33 hi hz0 (by rw [hz1]; decide) (by rw [hz1]; decide) ?_ (hK _ _ h)
  rw [hz1]
  have e : (#[(0, x)].map fun (p : Nat × Operand) => (p.1, a.eval p.2)).toList = [(0, .agg (rnL X).toArray)] := by simp [hx]
  exact (congrArg (Instr.fill (fun i => some (i * 33, 33)) _) e).trans (fill_rn X hX _ rfl)
theorem own_setId {w : World} {base g n c k : Nat} {L : List RName} {l : List UInt8} (h : OwnG rnK NEf w base (.slice (some ⟨g, 0, none⟩) n c) L) (hk : k < n) (hl : l.length = 32) :
  OwnG rnK NEf (w.setCells g (k * 33 + 1) (idCells l).toList) base (.slice (some ⟨g, 0, none⟩) n c) (L.set k ((gd L k).1, l)) ∧ w.grownBy (w.setCells g (k * 33 + 1) (idCells l).toList) (some g) := by
 have hln := h.len
 have hown : w.ownsRow base NEf 33 (.slice (some ⟨g, 0, none⟩) n c) n (flatG rnK L) := hln ▸ h.1
 obtain ⟨h1, h2⟩ := own_setCells (idCells l).toList (k * 33 + 1) hown
 have hok : ∀ x ∈ L.set k ((gd L k).1, l), rnK.ok x := fun x hx => by
  rcases List.mem_or_eq_of_mem_set hx with hx | rfl
  ·exact h.2 x hx
  ·exact hl
 refine ⟨⟨?_, hok⟩, h2⟩
 rw [List.length_set, hln]
 have e : putL (flatG rnK L) (k * 33 + 1) (idCells l).toList = flatG rnK (L.set k ((gd L k).1, l)) := by
  have hfl : (flatG rnK L).length = n * 33 := by rw [flatG_len h.2, hln]; rfl
  have hfs : (flatG rnK (L.set k ((gd L k).1, l))).length = n * 33 := by rw [flatG_len hok, List.length_set, hln]; rfl
  have hil : (idCells l).toList.length = 32 := by rw [Array.length_toList]; exact idCells_size hl
  apply List.ext_getElem?
  intro j
  rw [putL_get, hfl, hil]
  rcases Nat.lt_or_ge j (n * 33) with hj | hj
  ·obtain ⟨q, r, hr, rfl⟩ : ∃ q r, r < 33 ∧ j = q * 33 + r := ⟨j / 33, j % 33, Nat.mod_lt _ (by decide), by omega⟩
   have hq : q < n := by omega
   have a1 := flatG_at rnK h.2 q r (by omega) hr
   have a2 := flatG_at rnK hok q r (by rw [List.length_set]; omega) hr
   have e1 : rnK.k = 33 := rfl
   rw [e1] at a1 a2
   rw [a1, a2]
   by_cases hqk : q = k
   ·subst hqk
    have e2 : gd (L.set q ((gd L q).1, l)) q = ((gd L q).1, l) := by unfold gd; simp [hln, hk]
    rw [e2]
    show _ = (rnL ((gd L q).1, l))[r]?
    cases r with
    | zero => rw [if_neg (by omega)]; rfl
    | succ r =>
     rw [if_pos ⟨by omega, by omega, hj⟩, show q * 33 + (r + 1) - (q * 33 + 1) = r from by omega]
     simp [idCells, rnL]
   ·have e2 : gd (L.set k ((gd L k).1, l)) q = gd L q := by unfold gd; simp [Ne.symm hqk]
    rw [e2, if_neg (fun ⟨h1, h2, _⟩ => hqk (by omega))]
  ·rw [if_neg (by omega), List.getElem?_eq_none (by omega), List.getElem?_eq_none (by omega)]
 rw [← e]
 exact h1
theorem rn_id0 {w : World} {g n c j : Nat} {L : List RName} (h : AtG rnK w (some ⟨g, 0, none⟩) n c L) (hj : j < n) : w.rangeAt g (j * 33 + 1) ((gd L j).2.map B) := by
 have := rn_id h hj
 rwa [Nat.zero_add] at this
theorem find_is (a : Option Addr) (n c : Nat) (L : List RName) (s : List UInt8) (p : ByteArray) (hp : strB s = p) (w : World) (h : AtG rnK w a n c L) (hA : Asc L) (hn : n ≤ 100000) (k : Nat) (hk : findF L s = k) (t : Bool) (ht : thereF L s = t) :
  Calls Tryd.prog 55 #[.slice a n c, .string p] w fun e w' => e = .returned (.tuple #[.int .i64 k, .bool t]) ∧ Below w.heap.size w w' := by subst hp; exact find_any a n c L s w h hA hn k hk t ht
theorem name_isP (n : List UInt8) (p : ByteArray) (hp : strB n = p) (q : Bool) (hq : nameF n = q) (w : World) : Calls Tryd.prog 57 #[.string p] w fun e w' => e = .returned (.bool q) ∧ Below w.heap.size w w' := by subst hp; exact name_is n q hq w
theorem ne_lt {a b : Nat} (h : a < b) : some a ≠ some b := fun e => by cases e; omega
def MoveIs (w : World) (base : Nat) (v : Value) (r : List RName × Nat) (e : Ending) (w' : World) : Prop := ∃ (a' : Option Addr) (n' c' : Nat), e = .returned (.tuple #[.slice a' n' c', .int .i64 (r.2 : Nat)]) ∧ (r.2 = 0 → OwnG rnK NEf w' base (.slice a' n' c') r.1 ∧ Told w v (.slice a' n' c')) ∧ w.grownBy w' v.ownBlock

set_option maxRecDepth 100000 in
set_option maxHeartbeats 2000000 in
theorem move_any (a : Option Addr) (n c base : Nat) (L : List RName) (u : UpdV) (w : World) (h : OwnG rnK NEf w base (.slice a n c) L) (hA : Asc L) (hu : UpOk u) (hb : base ≤ w.heap.size) (hn : n ≤ 100000) :
  Calls Tryd.prog 88 #[.slice a n c, .agg (upC u)] w (MoveIs w base (.slice a n c) (moveF L u)) := by
 have HLN := Lib.hid h.len
 have HO := Lib.hid h
 have HBS := Lib.hid hb
 have HUO := Lib.hid hu
 have HNM6 := Lib.hid (Nat.le_trans hn (by decide) : n ≤ 1000000)
 obtain ⟨m, hm⟩ : ∃ m, nameF u.name = m := ⟨_, rfl⟩
 obtain ⟨k, hk⟩ : ∃ k, findF L u.name = k := ⟨_, rfl⟩
 obtain ⟨t, ht⟩ : ∃ t, thereF L u.name = t := ⟨_, rfl⟩
 obtain ⟨z, hz⟩ : ∃ z, decide (u.new = idZero) = z := ⟨_, rfl⟩
 obtain ⟨p, hp⟩ : ∃ p, strB u.name = p := ⟨_, rfl⟩
 have hkn : k ≤ n := by rw [← hk, ← h.len]; exact findF_le L u.name
 have HKL := Lib.hid hkn
 have HPE := Lib.hid hp
 have HNM := Lib.hid (fun W => name_isP u.name p hp m hm W)
 have HFD := Lib.hid (fun W (hO : OwnG rnK NEf W base (.slice a n c) L) => find_is a n c L u.name p hp W hO.atG hA hn k hk t ht)
 have HZE := Lib.hid (fun W => zero_any u.new hu.2.2 z hz W)
 have HR := Lib.hid (show RowAt (w.alloc (.cells (upC u) UEf)) w.heap.size UEf (upL u) from heap_alloc_new w _)
 have HB := Lib.hid ((Below.refl w.heap.size w).alloc (Nat.le_refl _) (.cells (upC u) UEf))
 have HC1 := Lib.hid (fun W (hh : RowAt W w.heap.size UEf (upL u)) => (hp ▸ up_name hh : W.cell? ⟨w.heap.size, 1, none⟩ = some (.string p)))
 have HC2 := Lib.hid (fun W (hh : RowAt W w.heap.size UEf (upL u)) => up_old hh)
 have HC34 := Lib.hid (fun W (hh : RowAt W w.heap.size UEf (upL u)) => up_new hu hh)
 have c1 := HC1.out _ HR.out
 have HMV : Hid (moveF L u = if m = false then ([], 10) else if (if t then (gd L k).2 else idZero) ≠ u.old then ([], 15) else if t then (if z then (L.eraseIdx k, 0) else (L.set k ((gd L k).1, u.new), 0)) else if z then (L, 0) else if L.length = 64 then ([], 3) else (L.take k ++ (u.name, u.new) :: L.drop k, 0)) := Lib.hid (by
  unfold moveF
  rw [hm, hk, ht, ← hz]
  simp only [decide_eq_true_eq])
 have HK := Lib.hid hk
 have HT := Lib.hid ht
 have hnI : (n : Int) ≤ 100000 := by omega
 have hkI : (k : Int) ≤ (n : Int) := by omega
 have hk0 : (0 : Int) ≤ (k : Int) := by omega
 clear h hA hu hb hn hm hk ht hz hp hkn
 generalize moveF L u = MV at HMV ⊢
 cases m
 ·obtain rfl : MV = ([], 10) := HMV.out.trans (if_pos rfl)
  go_enter Tryd.func88, Tryd.ntmps88
  go_wp2_with (first
   | (go_at_call 57; go_must (refine (HNM.out _).mono ?_); rintro e w1 ⟨rfl, hb1⟩; have HB1 := thn HB hb1; have HR1 := Lib.hid (HR.out.below hb1); have c1b := HC1.out _ HR1.out; clear hb1))
  go_ret2
  exact ⟨none, 0, 0, rfl, fun h => absurd h (by decide), grown_below HB1.out _⟩
 have hMV : MV = _ := HMV.out.trans (if_neg (by simp))
 cases t
 ·simp only [Bool.false_eq_true, if_false] at hMV
  by_cases ho : idZero = u.old
  ·have HOLD : Hid (decide (idZero = u.old) = true) := Lib.hid (decide_eq_true ho)
   rw [if_neg (not_not_intro ho)] at hMV
   cases z
   ·rw [if_neg (by simp)] at hMV
    by_cases hl : L.length = 64
    ·rw [if_pos hl] at hMV
     subst hMV
     have e64 : n = 64 := by rw [← HLN.out]; exact hl
     have hn64 : decide (n = 64) = true := decide_eq_true e64
     have hn64B : ((n : Int) == 64) = true := by rw [beq_iff_eq]; omega
     clear ho hl e64
     go_enter Tryd.func88, Tryd.ntmps88
     go_wp2_with (first
      | (go_at_call 57; go_must (refine (HNM.out _).mono ?_); rintro e w1 ⟨rfl, hb1⟩; have HB1 := thn HB hb1; have HR1 := Lib.hid (HR.out.below hb1); have c1b := HC1.out _ HR1.out; clear hb1)
      | (go_at_call 55; go_must (refine (HFD.out _ (HO.out.below HB1.out)).mono ?_); rintro e w2 ⟨rfl, hb2⟩; have HB2 := thn HB1 hb2; have HR2 := Lib.hid (HR1.out.below hb2); clear hb2)
      | ((with_reducible refine atS 8 ?_); go_must (refine alloc_id rfl rfl ?_); intro w3 hid3 hb3 hs3; have HI3 := Lib.hid hid3; have HB3 := thn HB2 hb3; have HR3 := Lib.hid (HR2.out.below hb3); have HG3 := Lib.hid HR2.out.lt; generalize w2.heap.size = g8 at hid3 hs3 HI3 HG3 ⊢; clear hid3 hb3 hs3)
      | ((with_reducible refine atS 36 ?_); go_must (refine wl_load rfl _ rfl _ _ idZero len_idZero rfl HI3.out.range ?_))
      | ((with_reducible refine atS 38 ?_); go_must (refine wl_load rfl _ rfl _ _ u.old HUO.out.2.1 rfl (HC2.out _ HR3.out) ?_))
      | ((with_reducible refine atS 39 ?_); go_must (refine wl_ex rfl (exec_neqId _ _ _ rfl idZero u.old len_idZero HUO.out.2.1 rfl rfl) ?_); rw [HOLD.out])
      | ((with_reducible refine atS 62 ?_); go_must (refine wl_load rfl _ rfl _ _ u.new HUO.out.2.2 rfl (HC34.out _ HR3.out) ?_))
      | (go_at_call 58; go_must (refine (HZE.out _).mono ?_); rintro e w5 ⟨rfl, hb5⟩; have HB5 := thn HB3 hb5; have HR5 := Lib.hid (HR3.out.below hb5); have c1z := HC1.out _ HR5.out; clear hb5))
     go_ret2
     exact ⟨none, 0, 0, rfl, fun h => absurd h (by decide), grown_below HB5.out _⟩
    ·rw [if_neg hl] at hMV
     subst hMV
     have e64 : ¬ n = 64 := by rw [← HLN.out]; exact hl
     have hn64 : decide (n = 64) = false := decide_eq_false e64
     have hn64B : ((n : Int) == 64) = false := beq_eq_false_iff_ne.2 (by omega)
     clear ho hl e64
     go_enter Tryd.func88, Tryd.ntmps88
     go_wp2_with (first
      | (go_at_call 57; go_must (refine (HNM.out _).mono ?_); rintro e w1 ⟨rfl, hb1⟩; have HB1 := thn HB hb1; have HR1 := Lib.hid (HR.out.below hb1); have c1b := HC1.out _ HR1.out; clear hb1)
      | (go_at_call 55; go_must (refine (HFD.out _ (HO.out.below HB1.out)).mono ?_); rintro e w2 ⟨rfl, hb2⟩; have HB2 := thn HB1 hb2; have HR2 := Lib.hid (HR1.out.below hb2); clear hb2)
      | ((with_reducible refine atS 8 ?_); go_must (refine alloc_id rfl rfl ?_); intro w3 hid3 hb3 hs3; have HI3 := Lib.hid hid3; have HB3 := thn HB2 hb3; have HR3 := Lib.hid (HR2.out.below hb3); have HG3 := Lib.hid HR2.out.lt; generalize w2.heap.size = g8 at hid3 hs3 HI3 HG3 ⊢; clear hid3 hb3 hs3)
      | ((with_reducible refine atS 36 ?_); go_must (refine wl_load rfl _ rfl _ _ idZero len_idZero rfl HI3.out.range ?_))
      | ((with_reducible refine atS 38 ?_); go_must (refine wl_load rfl _ rfl _ _ u.old HUO.out.2.1 rfl (HC2.out _ HR3.out) ?_))
      | ((with_reducible refine atS 39 ?_); go_must (refine wl_ex rfl (exec_neqId _ _ _ rfl idZero u.old len_idZero HUO.out.2.1 rfl rfl) ?_); rw [HOLD.out])
      | ((with_reducible refine atS 62 ?_); go_must (refine wl_load rfl _ rfl _ _ u.new HUO.out.2.2 rfl (HC34.out _ HR3.out) ?_))
      | (go_at_call 58; go_must (refine (HZE.out _).mono ?_); rintro e w5 ⟨rfl, hb5⟩; have HB5 := thn HB3 hb5; have HR5 := Lib.hid (HR3.out.below hb5); have c1z := HC1.out _ HR5.out; clear hb5)
      | ((with_reducible refine atS 31 ?_); go_must (refine wl_load rfl _ rfl _ _ u.new HUO.out.2.2 rfl (HC34.out _ HR5.out) ?_))
      | ((with_reducible refine atS 32 ?_); go_must (refine wl_ex rfl (exec_rn _ _ rfl u.name u.new HUO.out.2.2 p HPE.out.symm rfl rfl) ?_))
      | ((with_reducible refine atS 33 ?_); go_must (refine sl_rn rfl _ rfl (u.name, u.new) HUO.out.2.2 rfl ?_); have HB6 := Lib.hid (HB5.out.alloc HB5.out.size (.cells (rnL (u.name, u.new)).toArray NEf)); have HV6 := Lib.hid (show RowAt (w5.alloc (.cells (rnL (u.name, u.new)).toArray NEf)) w5.heap.size NEf (rnL (u.name, u.new)) from heap_alloc_new w5 _); have HVB := Lib.hid (fun q (hq : (Value.slice a n c).ownBlock = some q) => (by have h1 := (HO.out.lt q hq).2; have h2 := HB5.out.size; omega : w5.heap.size ≠ q)))
      | (go_at_call 93; go_must (refine (insert_any a n c k base _ L (u.name, u.new) _ (HO.out.below HB6.out) HUO.out.2.2 HV6.out HVB.out HKL.out HNM6.out (Nat.le_trans HBS.out HB6.out.size)).mono ?_); rintro e w7 ⟨a7, c7, rfl, ho7, hg7, ht7⟩; have HT7 := Lib.hid (told_later ht7 HB6.out); have HO7 := Lib.hid ho7; have HG7 := Lib.hid hg7; clear ho7 hg7 ht7))
     go_ret2
     exact ⟨a7, n + 1, c7, rfl, fun _ => ⟨HO7.out, HT7.out⟩, (grown_below HB6.out _).trans HG7.out⟩
   ·rw [if_pos rfl] at hMV
    subst hMV
    clear ho
    go_enter Tryd.func88, Tryd.ntmps88
    go_wp2_with (first
     | (go_at_call 57; go_must (refine (HNM.out _).mono ?_); rintro e w1 ⟨rfl, hb1⟩; have HB1 := thn HB hb1; have HR1 := Lib.hid (HR.out.below hb1); have c1b := HC1.out _ HR1.out; clear hb1)
     | (go_at_call 55; go_must (refine (HFD.out _ (HO.out.below HB1.out)).mono ?_); rintro e w2 ⟨rfl, hb2⟩; have HB2 := thn HB1 hb2; have HR2 := Lib.hid (HR1.out.below hb2); clear hb2)
     | ((with_reducible refine atS 8 ?_); go_must (refine alloc_id rfl rfl ?_); intro w3 hid3 hb3 hs3; have HI3 := Lib.hid hid3; have HB3 := thn HB2 hb3; have HR3 := Lib.hid (HR2.out.below hb3); have HG3 := Lib.hid HR2.out.lt; generalize w2.heap.size = g8 at hid3 hs3 HI3 HG3 ⊢; clear hid3 hb3 hs3)
     | ((with_reducible refine atS 36 ?_); go_must (refine wl_load rfl _ rfl _ _ idZero len_idZero rfl HI3.out.range ?_))
     | ((with_reducible refine atS 38 ?_); go_must (refine wl_load rfl _ rfl _ _ u.old HUO.out.2.1 rfl (HC2.out _ HR3.out) ?_))
     | ((with_reducible refine atS 39 ?_); go_must (refine wl_ex rfl (exec_neqId _ _ _ rfl idZero u.old len_idZero HUO.out.2.1 rfl rfl) ?_); rw [HOLD.out])
     | ((with_reducible refine atS 62 ?_); go_must (refine wl_load rfl _ rfl _ _ u.new HUO.out.2.2 rfl (HC34.out _ HR3.out) ?_))
     | (go_at_call 58; go_must (refine (HZE.out _).mono ?_); rintro e w5 ⟨rfl, hb5⟩; have HB5 := thn HB3 hb5; have HR5 := Lib.hid (HR3.out.below hb5); have c1z := HC1.out _ HR5.out; clear hb5))
    go_ret2
    exact ⟨a, n, c, rfl, fun _ => ⟨HO.out.below HB5.out, .inl rfl⟩, grown_below HB5.out _⟩
  ·have HOLD : Hid (decide (idZero = u.old) = false) := Lib.hid (decide_eq_false ho)
   rw [if_pos ho] at hMV
   subst hMV
   clear ho
   go_enter Tryd.func88, Tryd.ntmps88
   go_wp2_with (first
    | (go_at_call 57; go_must (refine (HNM.out _).mono ?_); rintro e w1 ⟨rfl, hb1⟩; have HB1 := thn HB hb1; have HR1 := Lib.hid (HR.out.below hb1); have c1b := HC1.out _ HR1.out; clear hb1)
    | (go_at_call 55; go_must (refine (HFD.out _ (HO.out.below HB1.out)).mono ?_); rintro e w2 ⟨rfl, hb2⟩; have HB2 := thn HB1 hb2; have HR2 := Lib.hid (HR1.out.below hb2); clear hb2)
    | ((with_reducible refine atS 8 ?_); go_must (refine alloc_id rfl rfl ?_); intro w3 hid3 hb3 hs3; have HI3 := Lib.hid hid3; have HB3 := thn HB2 hb3; have HR3 := Lib.hid (HR2.out.below hb3); have HG3 := Lib.hid HR2.out.lt; generalize w2.heap.size = g8 at hid3 hs3 HI3 HG3 ⊢; clear hid3 hb3 hs3)
    | ((with_reducible refine atS 36 ?_); go_must (refine wl_load rfl _ rfl _ _ idZero len_idZero rfl HI3.out.range ?_))
    | ((with_reducible refine atS 38 ?_); go_must (refine wl_load rfl _ rfl _ _ u.old HUO.out.2.1 rfl (HC2.out _ HR3.out) ?_))
    | ((with_reducible refine atS 39 ?_); go_must (refine wl_ex rfl (exec_neqId _ _ _ rfl idZero u.old len_idZero HUO.out.2.1 rfl rfl) ?_); rw [HOLD.out]))
   go_ret2
   exact ⟨none, 0, 0, rfl, fun h => absurd h (by decide), grown_below HB3.out _⟩
 ·have hkn2 : k < n := by
   have := HT.out
   unfold thereF at this
   rw [HK.out, HLN.out, Bool.and_eq_true] at this
   exact of_decide_eq_true this.1
  have HKN := Lib.hid hkn2
  have HXI : Hid ((gd L k).2.length = 32) := Lib.hid (HO.out.2 _ (gd_mem (by rw [HLN.out]; exact hkn2)))
  obtain ⟨g, rfl, hgb, hgl, _⟩ := HO.out.row (by omega)
  have hknI : (k : Int) < (n : Int) := by omega
  have HTH := Lib.hid (fun W (hW : Below w.heap.size w W) (j : Nat) (hj : j < (idCells u.new).size) => (by
   have h1 := (HO.out.below hW)
   have h2 : W.ownsRow base NEf 33 (.slice (some ⟨g, 0, none⟩) n c) n (flatG rnK L) := HLN.out ▸ h1.1
   have h3 := (own_cap h2).1
   rw [idCells_size HUO.out.2.2] at hj
   exact own_there h2 (k * 33 + 1 + j) (by omega) : (W.cell? ⟨g, k * 33 + 1 + j, none⟩).isSome = true ∧ W.frozen? ⟨g, k * 33 + 1 + j, none⟩ = false))
  simp only [if_true] at hMV
  clear hkn2 hgb hgl
  by_cases ho : (gd L k).2 = u.old
  ·have HOLD : Hid (decide ((gd L k).2 = u.old) = true) := Lib.hid (decide_eq_true ho)
   rw [if_neg (not_not_intro ho)] at hMV
   cases z
   ·rw [if_neg (by simp)] at hMV
    subst hMV
    clear ho
    go_enter Tryd.func88, Tryd.ntmps88
    go_wp2_with (first
     | (go_at_call 57; go_must (refine (HNM.out _).mono ?_); rintro e w1 ⟨rfl, hb1⟩; have HB1 := thn HB hb1; have HR1 := Lib.hid (HR.out.below hb1); have c1b := HC1.out _ HR1.out; clear hb1)
     | (go_at_call 55; go_must (refine (HFD.out _ (HO.out.below HB1.out)).mono ?_); rintro e w2 ⟨rfl, hb2⟩; have HB2 := thn HB1 hb2; have HR2 := Lib.hid (HR1.out.below hb2); clear hb2)
     | ((with_reducible refine atS 8 ?_); go_must (refine alloc_id rfl rfl ?_); intro w3 hid3 hb3 hs3; have HI3 := Lib.hid hid3; have HB3 := thn HB2 hb3; have HR3 := Lib.hid (HR2.out.below hb3); have HG3 := Lib.hid HR2.out.lt; generalize w2.heap.size = g8 at hid3 hs3 HI3 HG3 ⊢; clear hid3 hb3 hs3)
     | ((with_reducible refine atS 25 ?_); go_must (refine wl_load rfl _ rfl _ _ (gd L k).2 HXI.out rfl (rn_id0 (HO.out.below HB3.out).atG HKN.out) ?_))
     | ((with_reducible refine atT 8 ?_); go_must (refine store_id rfl _ _ rfl _ _ (gd L k).2 rfl rfl HI3.out HXI.out ?_); intro w4 hid4 hg4 hs4; have HB4 := Lib.hid (HB3.out.grown hg4 HB3.out.size (fun q hq => by cases hq; exact Nat.le_of_lt HG3.out)); have HI4 := Lib.hid hid4; have HR4 := Lib.hid (HR3.out.grown hg4 (ne_lt HG3.out)); clear hid4 hg4 hs4)
     | ((with_reducible refine atS 36 ?_); go_must (refine wl_load rfl _ rfl _ _ (gd L k).2 HXI.out rfl HI4.out.range ?_))
     | ((with_reducible refine atS 38 ?_); go_must (refine wl_load rfl _ rfl _ _ u.old HUO.out.2.1 rfl (HC2.out _ HR4.out) ?_))
     | ((with_reducible refine atS 39 ?_); go_must (refine wl_ex rfl (exec_neqId _ _ _ rfl (gd L k).2 u.old HXI.out HUO.out.2.1 rfl rfl) ?_); rw [HOLD.out])
     | ((with_reducible refine atS 44 ?_); go_must (refine wl_load rfl _ rfl _ _ u.new HUO.out.2.2 rfl (HC34.out _ HR4.out) ?_))
     | (go_at_call 58; go_must (refine (HZE.out _).mono ?_); rintro e w5 ⟨rfl, hb5⟩; have HB5 := thn HB4 hb5; have HR5 := Lib.hid (HR4.out.below hb5); have c1z := HC1.out _ HR5.out; clear hb5)
     | ((with_reducible refine atS 57 ?_); go_must (refine wl_load rfl _ rfl _ _ u.new HUO.out.2.2 rfl (HC34.out _ HR5.out) ?_))
     | ((with_reducible refine atT 59 ?_); go_must (refine wpList_store_mid rfl _ _ _ rfl g (k * 33 + 1) (idCells u.new) rfl rfl (HTH.out _ HB5.out) (by rw [idCells_size HUO.out.2.2]; exact info_id) (by unfold idCells; exact all_oneCell_toArray (B_one _)) ?_)))
    go_ret2
    obtain ⟨h1, h2⟩ := own_setId (HO.out.below HB5.out) HKN.out HUO.out.2.2
    exact ⟨some ⟨g, 0, none⟩, n, c, rfl, fun _ => ⟨h1, .inl rfl⟩, (grown_below HB5.out _).trans h2⟩
   ·rw [if_pos rfl] at hMV
    subst hMV
    clear ho
    go_enter Tryd.func88, Tryd.ntmps88
    go_wp2_with (first
     | (go_at_call 57; go_must (refine (HNM.out _).mono ?_); rintro e w1 ⟨rfl, hb1⟩; have HB1 := thn HB hb1; have HR1 := Lib.hid (HR.out.below hb1); have c1b := HC1.out _ HR1.out; clear hb1)
     | (go_at_call 55; go_must (refine (HFD.out _ (HO.out.below HB1.out)).mono ?_); rintro e w2 ⟨rfl, hb2⟩; have HB2 := thn HB1 hb2; have HR2 := Lib.hid (HR1.out.below hb2); clear hb2)
     | ((with_reducible refine atS 8 ?_); go_must (refine alloc_id rfl rfl ?_); intro w3 hid3 hb3 hs3; have HI3 := Lib.hid hid3; have HB3 := thn HB2 hb3; have HR3 := Lib.hid (HR2.out.below hb3); have HG3 := Lib.hid HR2.out.lt; generalize w2.heap.size = g8 at hid3 hs3 HI3 HG3 ⊢; clear hid3 hb3 hs3)
     | ((with_reducible refine atS 25 ?_); go_must (refine wl_load rfl _ rfl _ _ (gd L k).2 HXI.out rfl (rn_id0 (HO.out.below HB3.out).atG HKN.out) ?_))
     | ((with_reducible refine atT 8 ?_); go_must (refine store_id rfl _ _ rfl _ _ (gd L k).2 rfl rfl HI3.out HXI.out ?_); intro w4 hid4 hg4 hs4; have HB4 := Lib.hid (HB3.out.grown hg4 HB3.out.size (fun q hq => by cases hq; exact Nat.le_of_lt HG3.out)); have HI4 := Lib.hid hid4; have HR4 := Lib.hid (HR3.out.grown hg4 (ne_lt HG3.out)); clear hid4 hg4 hs4)
     | ((with_reducible refine atS 36 ?_); go_must (refine wl_load rfl _ rfl _ _ (gd L k).2 HXI.out rfl HI4.out.range ?_))
     | ((with_reducible refine atS 38 ?_); go_must (refine wl_load rfl _ rfl _ _ u.old HUO.out.2.1 rfl (HC2.out _ HR4.out) ?_))
     | ((with_reducible refine atS 39 ?_); go_must (refine wl_ex rfl (exec_neqId _ _ _ rfl (gd L k).2 u.old HXI.out HUO.out.2.1 rfl rfl) ?_); rw [HOLD.out])
     | ((with_reducible refine atS 44 ?_); go_must (refine wl_load rfl _ rfl _ _ u.new HUO.out.2.2 rfl (HC34.out _ HR4.out) ?_))
     | (go_at_call 58; go_must (refine (HZE.out _).mono ?_); rintro e w5 ⟨rfl, hb5⟩; have HB5 := thn HB4 hb5; have HR5 := Lib.hid (HR4.out.below hb5); have c1z := HC1.out _ HR5.out; clear hb5)
     | (go_at_call 92; go_must (refine (deleteN_any g n c k (k + 1) base _ L _ (HO.out.below HB5.out) HKN.out rfl (by push_cast; rfl) HNM6.out).mono ?_); rintro e w6 ⟨rfl, ho6, hg6⟩))
    go_ret2
    exact ⟨some ⟨g, 0, none⟩, n - 1, c, rfl, fun _ => ⟨ho6, .inl rfl⟩, (grown_below HB5.out _).trans hg6⟩
  ·have HOLD : Hid (decide ((gd L k).2 = u.old) = false) := Lib.hid (decide_eq_false ho)
   rw [if_pos ho] at hMV
   subst hMV
   clear ho
   go_enter Tryd.func88, Tryd.ntmps88
   go_wp2_with (first
    | (go_at_call 57; go_must (refine (HNM.out _).mono ?_); rintro e w1 ⟨rfl, hb1⟩; have HB1 := thn HB hb1; have HR1 := Lib.hid (HR.out.below hb1); have c1b := HC1.out _ HR1.out; clear hb1)
    | (go_at_call 55; go_must (refine (HFD.out _ (HO.out.below HB1.out)).mono ?_); rintro e w2 ⟨rfl, hb2⟩; have HB2 := thn HB1 hb2; have HR2 := Lib.hid (HR1.out.below hb2); clear hb2)
    | ((with_reducible refine atS 8 ?_); go_must (refine alloc_id rfl rfl ?_); intro w3 hid3 hb3 hs3; have HI3 := Lib.hid hid3; have HB3 := thn HB2 hb3; have HR3 := Lib.hid (HR2.out.below hb3); have HG3 := Lib.hid HR2.out.lt; generalize w2.heap.size = g8 at hid3 hs3 HI3 HG3 ⊢; clear hid3 hb3 hs3)
    | ((with_reducible refine atS 25 ?_); go_must (refine wl_load rfl _ rfl _ _ (gd L k).2 HXI.out rfl (rn_id0 (HO.out.below HB3.out).atG HKN.out) ?_))
    | ((with_reducible refine atT 8 ?_); go_must (refine store_id rfl _ _ rfl _ _ (gd L k).2 rfl rfl HI3.out HXI.out ?_); intro w4 hid4 hg4 hs4; have HB4 := Lib.hid (HB3.out.grown hg4 HB3.out.size (fun q hq => by cases hq; exact Nat.le_of_lt HG3.out)); have HI4 := Lib.hid hid4; have HR4 := Lib.hid (HR3.out.grown hg4 (ne_lt HG3.out)); clear hid4 hg4 hs4)
    | ((with_reducible refine atS 36 ?_); go_must (refine wl_load rfl _ rfl _ _ (gd L k).2 HXI.out rfl HI4.out.range ?_))
    | ((with_reducible refine atS 38 ?_); go_must (refine wl_load rfl _ rfl _ _ u.old HUO.out.2.1 rfl (HC2.out _ HR4.out) ?_))
    | ((with_reducible refine atS 39 ?_); go_must (refine wl_ex rfl (exec_neqId _ _ _ rfl (gd L k).2 u.old HXI.out HUO.out.2.1 rfl rfl) ?_); rw [HOLD.out]))
   go_ret2
   exact ⟨none, 0, 0, rfl, fun h => absurd h (by decide), grown_below HB4.out _⟩
end Go.Proofs.YthihmlojdopmfaaDoor
