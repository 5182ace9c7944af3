/-
  The walk of numbers: lines told by numbers, by one map for both rows.
-/
import Derived.Test.YtfoalaoanpbmeaaDoorHkNumM
import Derived.Test.YtfoalaoanpbmeaaDoorHkSplit
import Derived.Test.YtfoalaoanpbmeaaDoorRunes
import Derived.Maps.Own
import Derived.Maps.OwnSet
import Derived.Maps.Range
import Derived.Maps.RangeWalk
import Derived.MapViews
import Derived.Lib.Hide
import Derived.Deep.LoopGhost
namespace Go.Proofs.YtfoalaoanpbmeaaDoor
open Go.RowKit Go.Maps

def i32Elem (v : Value) : Option (DataW Unit × List MemPlace) := match v with
  | .int .i32 z => some (.lit (.int .i32 z), [])
  | _ => none
theorem i32_mk (z : Int) : i32Elem (.int .i32 z) = some (.lit (.int .i32 z), []) := rfl
theorem i32_inv {v : Value} {z : Int} {ps : List MemPlace} (h : i32Elem v = some (.lit (.int .i32 z), ps)) : v = .int .i32 z := by
  unfold i32Elem at h
  split at h
  · simp only [Option.some.injEq, Prod.mk.injEq, DataW.lit.injEq, Lit.int.injEq, true_and] at h
    rw [h.1]
  · cases h
theorem keyedS : Keyed Tryd.prog 9 := string_keyed Tryd.underlying9
theorem keySt {s : Ln} (h : s.length ≤ 4000000000) : keyOf Tryd.prog 9 (.string (strB s)) = some (.string s) := by
  have h1 := Go.WideMaps.keyOf_string_mk (P := Tryd.prog) Tryd.underlying9 (s := strB s) (by rw [strB_size]; unfold maxLen; omega)
  rw [strB_list] at h1
  exact h1
theorem zero32 (w : World) : (zeroValue 21).run Tryd.prog w = .ok (.int .i32 0) w := by kernel_rfl
/-- Block kb is the map of the lines seen so far. -/
def NumAt (w : World) (kb : Nat) (h : List Ln) : Prop :=
  ∃ D, w.ownsMap Tryd.prog 9 i32Elem kb h.length D ∧ Maps.size D = h.length ∧ ∀ s : Ln, Maps.has D (.string s) = decide (s ∈ h) ∧ (s ∈ h → D.atKey (.string s) (.lit (.int .i32 0)) = .lit (.int .i32 (h.idxOf s : Nat)))
section
variable {w w' : World} {kb : Nat} {h : List Ln}
theorem NumAt.lt (H : NumAt w kb h) : kb < w.heap.size := by obtain ⟨D, h1, _⟩ := H; exact h1.lt
theorem NumAt.nocell (H : NumAt w kb h) (j : Nat) : w.cell? ⟨kb, j, none⟩ = none := by
  obtain ⟨D, ⟨es, cl, hb, _⟩, _⟩ := H
  unfold World.cell?
  simp [hb]
theorem NumAt.kept {row : Option Nat} (H : NumAt w kb h) (hg : w.grownBy w' row) (hne : some kb ≠ row) : NumAt w' kb h := by
  obtain ⟨D, h1, h2⟩ := H
  exact ⟨D, h1.kept hg hne, h2⟩
theorem numAt_new (w : World) : NumAt (w.alloc (.map #[] 0)) w.heap.size [] :=
  ⟨.map [], World.ownsMap_made _ _ _ _, rfl, fun s => ⟨by simp [Maps.has], fun hs => by cases hs⟩⟩
theorem exec_lookN (H : NumAt w kb h) {o : Oper} {a : Act} (mo x : Operand) (ho : o.op = .lookup 106 mo x true) (hm : a.eval mo = .map (some kb)) (s : Ln) (hs : s.length ≤ 4000000000) (hx : a.eval x = .string (strB s)) (q : Bool) (hq : decide (s ∈ h) = q) (z : Int) (hz : (if s ∈ h then ((h.idxOf s : Nat) : Int) else 0) = z) :
    (execOp a.eval o).run Tryd.prog w = .ok (.value (.tuple #[.int .i32 z, .bool q])) w := by
  obtain ⟨D, h1, _, h2⟩ := H
  obtain ⟨h3, h4⟩ := h2 s
  obtain ⟨v, ps, hrun, hv⟩ := h1.look_ok (t := 106) (e := 21) keyedS Tryd.underlying106 (zero32 w) (zd := .lit (.int .i32 0)) (zp := []) (i32_mk 0) (keySt hs)
  rw [h3, hq] at hrun
  have hat : D.atKey (.string s) (.lit (.int .i32 0)) = .lit (.int .i32 z) := by
    by_cases hm : s ∈ h
    · rw [if_pos hm] at hz; rw [h4 hm, hz]
    · rw [if_neg hm] at hz
      rw [Maps.atKey_of_not_has (by rw [h3]; simp [hm]), hz]
  rw [hat] at hv
  obtain rfl := i32_inv hv
  unfold execOp
  simp only [ho, hm, hx]
  simp only [Sem.run_bind, hrun, Result.andThen_ok, Sem.run_pure]
theorem exec_lookN1 (H : NumAt w kb h) {o : Oper} {a : Act} (mo x : Operand) (ho : o.op = .lookup 106 mo x false) (hm : a.eval mo = .map (some kb)) (s : Ln) (hs : s.length ≤ 4000000000) (hx : a.eval x = .string (strB s)) (hin : s ∈ h) (z : Int) (hz : ((h.idxOf s : Nat) : Int) = z) :
    (execOp a.eval o).run Tryd.prog w = .ok (.value (.int .i32 z)) w := by
  obtain ⟨D, h1, _, h2⟩ := H
  obtain ⟨h3, h4⟩ := h2 s
  obtain ⟨v, ps, hrun, hv⟩ := h1.lookup (t := 106) (e := 21) keyedS Tryd.underlying106 (zero32 w) (zd := .lit (.int .i32 0)) (zp := []) (i32_mk 0) (keySt hs)
  rw [h4 hin, hz] at hv
  obtain rfl := i32_inv hv
  unfold execOp
  simp only [ho, hm, hx]
  simp only [Sem.run_bind, hrun, Result.andThen_ok, Sem.run_pure]
set_option maxRecDepth 100000 in
theorem wl_numPut (H : NumAt w kb h) {ops : Array Oper} {rest : List Oper} {o : Oper} {a : Act} {Q : Exit → Act → World → Prop} (hgd : o.guard = none) (hk : h.length ≤ 1000000) (mo x y : Operand) (ho : o.op = .mapUpdate 106 mo x y) (hm : a.eval mo = .map (some kb)) (s : Ln) (hs : s.length ≤ 4000000000) (hx : a.eval x = .string (strB s)) (hno : s ∉ h) (hy : a.eval y = .int .i32 (h.length : Nat))
    (hK : ∀ w', NumAt w' kb (h ++ [s]) → w.grownBy w' (some kb) → wpList Tryd.prog ops Q rest (a.put o.dst undef) w') : wpList Tryd.prog ops Q (o :: rest) a w := by
  obtain ⟨D, h1, hsz, h2⟩ := H
  obtain ⟨w', hrun, r1, r2⟩ := World.ownsMap.store (t := 106) (e := 21) h1 keyedS Tryd.underlying106 (by unfold maxLen; omega) (keySt hs) (val := .int .i32 (h.length : Nat)) (d := .lit (.int .i32 (h.length : Nat))) (ps := []) (i32_mk _)
  refine wpList_plain hgd fun K hK' => ?_
  unfold Oper.wp
  simp [execOp, ho, hm, hx, hy, hrun, Result.andThen]
  refine hK' _ _ (hK w' ⟨_, by rw [List.length_append]; exact r1, ?_, fun z => ?_⟩ r2.grown)
  · rw [Maps.size_put (h1.tidy keyedS), (h2 s).1, List.length_append, hsz]
    simp [hno]
  · by_cases he : z = s
    · subst he
      refine ⟨by rw [Maps.has_put_same h1.isMap (keyedS.key (keySt hs))]; simp, fun _ => ?_⟩
      rw [Maps.atKey_put_same h1.isMap (keyedS.key (keySt hs))]
      congr 3
      rw [List.idxOf_append, if_neg hno, List.idxOf_cons_self]; simp
    · have hne : (Lit.string z) ≠ Lit.string s := fun e => he (by injection e)
      obtain ⟨h3, h4⟩ := h2 z
      refine ⟨by rw [Maps.has_put_other hne, h3]; simp [he], fun hz => ?_⟩
      have hz' : z ∈ h := by
        rcases List.mem_append.1 hz with h5 | h5
        · exact h5
        · exact absurd (List.mem_singleton.1 h5) he
      rw [Maps.atKey_put_other hne, h4 hz', List.idxOf_append, if_pos hz']
theorem NumAt.len (H : NumAt w kb h) (ty : TypeId) : (Builtin.len_ #[106] ty #[.map (some kb)]).run Tryd.prog w = .ok (.int .i64 (h.length : Nat)) w := by
  obtain ⟨D, h1, hsz, _⟩ := H
  rw [h1.len Tryd.underlying106 ty, hsz]
end
theorem wl_exN {w : World} {ops : Array Oper} {rest : List Oper} {o : Oper} {a : Act} {Q : Exit → Act → World → Prop} {v : Value} (hw : Region.wanted o (yielded ops a.tmps) = true) (hr : (execOp a.eval o).run Tryd.prog w = .ok (.value v) w)
    (h : wpList Tryd.prog ops Q rest (a.put o.dst v) w) : wpList Tryd.prog ops Q (o :: rest) a w := by
  unfold wpList
  rw [if_pos hw]
  exact .inl (by unfold Oper.wp; rw [hr]; exact h)
/-- Told what numbers a row of lines has; the map goes on. -/
def NumIs (kb : Nat) (L h : List Ln) (w : World) (e : Ending) (w' : World) : Prop := ∃ a n c, e = .returned (.slice a n c) ∧ OwnR w' w.heap.size (.slice a n c) (numsF h L).1 ∧ NumAt w' kb (numsF h L).2 ∧ w.grownBy w' (some kb)
theorem nums_app : ∀ (L M h : List Ln), (numsF h (L ++ M)).1 = (numsF h L).1 ++ (numsF (numsF h L).2 M).1 ∧ (numsF h (L ++ M)).2 = (numsF (numsF h L).2 M).2
  | [], M, h => ⟨rfl, rfl⟩
  | x :: L, M, h => by
    obtain ⟨h1, h2⟩ := nums_app L M (seeF h x)
    refine ⟨?_, h2⟩
    show ((seeF h x).idxOf x : Int) :: (numsF (seeF h x) (L ++ M)).1 = ((seeF h x).idxOf x : Int) :: ((numsF (seeF h x) L).1 ++ _)
    rw [h1]; rfl
theorem nums_h : ∀ (L h : List Ln), (numsF h L).2.length ≤ h.length + L.length
  | [], h => Nat.le_refl _
  | x :: L, h => by
    have h1 := nums_h L (seeF h x)
    have h2 : (seeF h x).length ≤ h.length + 1 := by unfold seeF; split <;> simp
    show (numsF (seeF h x) L).2.length ≤ h.length + (L.length + 1)
    omega
theorem take_snoc {α : Type} (L : List α) (i : Nat) (d : α) (hi : i < L.length) : L.take (i + 1) = L.take i ++ [L.getD i d] := by
  rw [List.take_add_one, List.getD_eq_getElem?_getD, List.getElem?_eq_getElem hi]; rfl
set_option maxRecDepth 100000 in
set_option maxHeartbeats 2000000 in
theorem numb_any (a : Option Addr) (n c g kb : Nat) (L h : List Ln) (w : World) (hL : AtG lnK w a n c L) (hl : ∀ s ∈ L, s.length ≤ 4000000000) (hn : n ≤ 5000) (hh : h.length ≤ 5000) (hg : w.cell? ⟨g, 0, none⟩ = some (.map (some kb))) (hgk : g ≠ kb) (hM : NumAt w kb h) :
    Calls Tryd.prog 55 #[.slice a n c, .pointer (some ⟨g, 0, none⟩)] w (NumIs kb L h w) := by
  have HL := Lib.hid hL
  have HLN := Lib.hid hL.1
  have HLS := Lib.hid hl
  have HM0 := Lib.hid hM
  have HG := Lib.hid hg
  have HGK := Lib.hid (⟨hgk, World.block_lt_of_cell? _ _ hg, hM.lt⟩ : g ≠ kb ∧ g < w.heap.size ∧ kb < w.heap.size)
  have HNO := Lib.hid hM.nocell
  have HB : Hid (n ≤ 5000 ∧ h.length ≤ 5000) := Lib.hid ⟨hn, hh⟩
  have KC : Hid (∀ W, w.grownBy W (some kb) → W.cell? ⟨g, 0, none⟩ = some (.map (some kb))) := Lib.hid (fun W hW => hW.cell hg (fun e => hgk (Option.some.inj e)))
  clear hL hl hg hgk hM hn hh
  go_enter Tryd.func55, Tryd.ntmps55
  go_wp2
  go_loopg [4, 11] n (fun gk v4 v11 W => ∃ (i : Nat) (a4 : Option Addr) (n4 c4 : Nat), v11 = .int .i64 (i : Nat) ∧ v4 = .slice a4 n4 c4 ∧ Hid (gk + i = n) ∧ Hid (OwnR W w.heap.size (.slice a4 n4 c4) (numsF h (L.take i)).1) ∧ Hid (NumAt W kb (numsF h (L.take i)).2) ∧ Hid (w.grownBy W (some kb)))
  case atStart => exact ⟨0, none, 0, 0, rfl, rfl, Lib.hid rfl, Lib.hid (OwnR.nil _ _), HM0, Lib.hid (World.grownBy.refl _ _)⟩
  case round =>
    obtain ⟨i, a4, n4, c4, rfl, rfl, HI, HO, HM, HGW⟩ := hrel
    by_cases hi : (i : Int) < (n : Int)
    · have hbox := KC.out wr HGW.out
      have hln := HLN.out
      obtain ⟨b, off, rfl⟩ := HL.out.some_ (by omega)
      obtain ⟨s, hs⟩ : ∃ s, L.getD i [] = s := ⟨_, rfl⟩
      have HS := Lib.hid hs
      have hcell : wr.cell? ⟨b, off + i, none⟩ = some (.string (strB s)) := by
        have h1 := ln_cell HL.out i (by omega)
        rw [hs] at h1
        exact HGW.out.cell h1 (fun e => by have h2 : b = kb := Option.some.inj e; rw [h2, HNO.out] at h1; cases h1)
      have HSL : Hid (s.length ≤ 4000000000) := Lib.hid (HLS.out s (by rw [← hs, List.getD_eq_getElem?_getD, List.getElem?_eq_getElem (by omega)]; exact List.getElem_mem _))
      obtain ⟨hk, hhk⟩ : ∃ hk, (numsF h (L.take i)).2 = hk := ⟨_, rfl⟩
      have HK := Lib.hid hhk
      rw [hhk] at HM
      have HKL : Hid (hk.length ≤ 10000) := Lib.hid (by have h1 := nums_h (L.take i) h; rw [hhk, List.length_take] at h1; have h2 := HB.out; omega)
      have HST := Lib.hid (nums_app (L.take i) [s] h)
      rw [hhk, ← hs, ← take_snoc L i [] (by omega), hs] at HST
      have HNL : Hid ((numsF h (L.take i)).1.length = i) := Lib.hid (by rw [nums_len, List.length_take]; omega)
      have HIN : Hid (i < n) := Lib.hid (by omega)
      have hi0 : (0 : Int) ≤ (i : Int) := by omega
      have W1 : IntKind.i64.wrap ((i : Int) + 1) = (i : Int) + 1 := IntWalk.i64_in _ (by have := HB.out; omega)
      have hlenk := HM.out.len 3
      obtain ⟨y, hy⟩ : ∃ y, hk.length = y := ⟨_, rfl⟩
      rw [hy] at hlenk
      have W2 : IntKind.i32.wrap (y : Int) = (y : Int) := by unfold IntKind.wrap; simp [IntKind.signed, IntKind.bits]; have := HKL.out; omega
      have HY := Lib.hid hy
      clear hs hhk hln hy
      by_cases hin : s ∈ hk
      · have HSE : Hid (seeF hk s = hk) := Lib.hid (by unfold seeF; rw [if_pos hin])
        have HQ : Hid (decide (s ∈ hk) = true) := Lib.hid (decide_eq_true hin)
        have HIM := Lib.hid hin
        obtain ⟨z, hz⟩ : ∃ z, ((hk.idxOf s : Nat) : Int) = z := ⟨_, rfl⟩
        have HZ := Lib.hid hz
        clear hin hz hlenk W2
        go_wp2_with (first
          | ((with_reducible show wpList _ _ _ (⟨some 18, _, _, _, _, _⟩ :: _) _ _); go_must (refine wl_exN rfl (exec_lookN HM.out _ _ rfl rfl s HSL.out rfl true HQ.out z (by rw [if_pos HIM.out]; exact HZ.out)) ?_))
          | ((with_reducible show wpList _ _ _ (⟨some 31, _, _, _, _, _⟩ :: _) _ _); go_must (refine wl_exN rfl (exec_lookN1 HM.out _ _ rfl rfl s HSL.out rfl HIM.out z HZ.out) ?_))
          | (at_builtin; go_must (refine app_runs rfl _ _ rfl w.heap.size _ (numsF h (L.take i)).1 rfl (HO.out.alloc _) (some ⟨wr.heap.size, 0, none⟩) 1 1 [z] rfl (runs_one _ _) (by have h1 := HNL.out; have h2 := HB.out; have h3 := HIN.out; omega) (by have := HGW.out.size; simp; omega) ?_); intro v6 w6 ho hg; obtain ⟨a6, n6, c6, rfl, _⟩ := ho.runs; have HO6 := Lib.hid ho; have HM6 := Lib.hid ((HM.out.kept (World.grownBy_alloc wr _ none) (by simp)).kept hg (fun e => by have h1 := HO.out.grown kb e.symm; have h2 := HGK.out; omega)); have HG6 := Lib.hid ((HGW.out.trans (World.grownBy_alloc _ _ _)).andThen hg (fun j hj => .inl (HO.out.grown j hj))); clear ho hg))
        go_roundg (gk - 1)
        case measure => have h1 := HI.out; have h2 := HIN.out; omega
        case rel =>
          have hst := HST.out
          have e1 : (numsF hk [s]).1 = [z] := by show [(((seeF hk s).idxOf s : Nat) : Int)] = _; rw [HSE.out, HZ.out]
          have e2 : (numsF hk [s]).2 = hk := HSE.out
          rw [e1, e2] at hst
          refine ⟨i + 1, a6, n6, c6, by go_num, rfl, Lib.hid (by have h1 := HI.out; have h2 := HIN.out; omega), Lib.hid (by rw [hst.1]; exact HO6.out), Lib.hid (by rw [hst.2]; exact HM6.out), HG6⟩
      · have HSE : Hid (seeF hk s = hk ++ [s]) := Lib.hid (by unfold seeF; rw [if_neg hin])
        have HQ : Hid (decide (s ∈ hk) = false) := Lib.hid (decide_eq_false hin)
        have HIM := Lib.hid hin
        have HZ : Hid ((((hk ++ [s]).idxOf s : Nat) : Int) = (y : Int)) := Lib.hid (by rw [List.idxOf_append, if_neg hin, List.idxOf_cons_self, ← HY.out]; simp)
        have HMI : Hid (s ∈ hk ++ [s]) := Lib.hid (by simp)
        clear hin
        go_wp2_with (first
          | ((with_reducible show wpList _ _ _ (⟨some 18, _, _, _, _, _⟩ :: _) _ _); go_must (refine wl_exN rfl (exec_lookN HM.out _ _ rfl rfl s HSL.out rfl false HQ.out 0 (by rw [if_neg HIM.out])) ?_))
          | ((with_reducible show wpList _ _ _ (⟨_, Op.mapUpdate _ _ _ _, _, _, _, _⟩ :: _) _ _); go_must (refine wl_numPut HM.out rfl (by have := HKL.out; omega) _ _ _ rfl rfl s HSL.out rfl HIM.out (by rw [HY.out]; rfl) ?_); intro w5 hm5 hg5; have HM5 := Lib.hid hm5; have HO5 : Hid (OwnR w5 w.heap.size (.slice a4 n4 c4) (numsF h (L.take i)).1) := Lib.hid (World.ownsRow.kept HO.out hg5 (by cases hv : (Value.slice a4 n4 c4).ownBlock with | none => exact .inl rfl | some k => exact .inr (fun e => by have h1 := HO.out.grown k hv; have h2 := HGK.out; have h3 := Option.some.inj e; omega))); have HG5 := Lib.hid (HGW.out.trans hg5); have hbox5 := KC.out w5 HG5.out; clear hm5 hg5)
          | ((with_reducible show wpList _ _ _ (⟨some 31, _, _, _, _, _⟩ :: _) _ _); go_must (refine wl_exN rfl (exec_lookN1 HM5.out _ _ rfl rfl s HSL.out rfl HMI.out (y : Int) HZ.out) ?_))
          | (at_builtin; go_must (refine app_runs rfl _ _ rfl w.heap.size _ (numsF h (L.take i)).1 rfl (HO5.out.alloc _) (some ⟨w5.heap.size, 0, none⟩) 1 1 [(y : Int)] rfl (runs_one _ _) (by have h1 := HNL.out; have h2 := HB.out; have h3 := HIN.out; omega) (by have := HG5.out.size; simp; omega) ?_); intro v6 w6 ho hg; obtain ⟨a6, n6, c6, rfl, _⟩ := ho.runs; have HO6 := Lib.hid ho; have HM6 := Lib.hid ((HM5.out.kept (World.grownBy_alloc w5 _ none) (by simp)).kept hg (fun e => by have h1 := HO5.out.grown kb e.symm; have h2 := HGK.out; omega)); have HG6 := Lib.hid ((HG5.out.trans (World.grownBy_alloc _ _ _)).andThen hg (fun j hj => .inl (HO5.out.grown j hj))); clear ho hg))
        go_roundg (gk - 1)
        case measure => have h1 := HI.out; have h2 := HIN.out; omega
        case rel =>
          have hst := HST.out
          have e1 : (numsF hk [s]).1 = [(y : Int)] := by show [(((seeF hk s).idxOf s : Nat) : Int)] = _; rw [HSE.out, HZ.out]
          have e2 : (numsF hk [s]).2 = hk ++ [s] := HSE.out
          rw [e1, e2] at hst
          refine ⟨i + 1, a6, n6, c6, by go_num, rfl, Lib.hid (by have h1 := HI.out; have h2 := HIN.out; omega), Lib.hid (by rw [hst.1]; exact HO6.out), Lib.hid (by rw [hst.2]; exact HM6.out), HG6⟩
    · have hin : i = n := by have := HI.out; omega
      subst hin
      go_wp2
      go_ret
      have e : L.take i = L := List.take_of_length_le (by rw [HLN.out]; exact Nat.le_refl _)
      rw [e] at HO HM
      exact ⟨a4, n4, c4, rfl, HO.out, HM.out, HGW.out⟩
theorem grown_set (w : World) (b o : Nat) (v : Value) : w.grownBy (w.setCell ⟨b, o, none⟩ v) (some b) := ⟨rfl, rfl, rfl, by simp, fun k _ hk => heap_setCell_other w ⟨b, o, none⟩ k v (by show k ≠ b; intro e; exact hk (by rw [e]))⟩
/-- Both rows' numbers. -/
def NumsIs (A B : List Ln) (w : World) (e : Ending) (w' : World) : Prop := ∃ a1 n1 c1 a2 n2 c2, e = .returned (.tuple #[.slice a1 n1 c1, .slice a2 n2 c2]) ∧ Runs w' a1 n1 c1 (numsF [] A).1 ∧ Runs w' a2 n2 c2 (numsF (numsF [] A).2 B).1 ∧ Below w.heap.size w w'
theorem grown_low {w w' : World} {b kb : Nat} (h : w.grownBy w' (some kb)) (hb : b ≤ kb) (hs : b ≤ w.heap.size) : Below b w w' := ⟨h.os, h.tape, h.output, h.size, fun k hk => h.block k (by omega) (fun e => by have := Option.some.inj e; omega)⟩
theorem AtG.kept_' {α : Type} [Inhabited α] {K : Kind α} {w w' : World} {a : Option Addr} {n c : Nat} {L : List α} {row : Option Nat} (h : AtG K w a n c L) (hg : w.grownBy w' row) (hne : ∀ b off, a = some ⟨b, off, none⟩ → 0 < n → some b ≠ row) : AtG K w' a n c L := by
  obtain ⟨h1, h2, h3, h5, h4⟩ := h
  refine ⟨h1, h2, h3, h5, ?_⟩
  rcases h4 with h4 | ⟨b, off, ha, hc⟩
  · exact .inl h4
  · exact .inr ⟨b, off, ha, fun j hj i v hv => hg.cell (hc j hj i v hv) (hne b off ha (by omega))⟩
set_option maxRecDepth 100000 in
set_option maxHeartbeats 2000000 in
theorem numbers_any (a a' : Option Addr) (n c n' c' : Nat) (A B : List Ln) (w : World) (hA : AtG lnK w a n c A) (hB : AtG lnK w a' n' c' B) (hlA : ∀ s ∈ A, s.length ≤ 4000000000) (hlB : ∀ s ∈ B, s.length ≤ 4000000000) (hn : n ≤ 5000) (hn' : n' ≤ 5000) :
    Calls Tryd.prog 40 #[.slice a n c, .slice a' n' c'] w (NumsIs A B w) := by
  have hmm := @run_makeMap Tryd.prog
  obtain ⟨w1, hw1⟩ : ∃ W, w.alloc (.map #[] 0) = W := ⟨_, rfl⟩
  obtain ⟨w2, hw2⟩ : ∃ W, w1.alloc (.cells #[.map none] 106) = W := ⟨_, rfl⟩
  have s1 : w1.heap.size = w.heap.size + 1 := by rw [← hw1]; simp
  have s2 : w2.heap.size = w.heap.size + 1 + 1 := by rw [← hw2]; simp [s1]
  have e2 : w2.heap[w.heap.size + 1]? = some (.cells #[.map none] 106 (0, 0)) := s1 ▸ hw2 ▸ heap_alloc_new w1 _
  have k2 : w2.cell? ⟨w.heap.size + 1, 0, none⟩ = some (.map none) := by rw [cell_of_row _ _ _ _ _ _ e2]; rfl
  have z2 : w2.frozen? ⟨w.heap.size + 1, 0, none⟩ = false := frozen_of_row w2 _ 0 _ _ e2
  obtain ⟨w3, hw3⟩ : ∃ W, w2.setCell ⟨w.heap.size + 1, 0, none⟩ (.map (some w.heap.size)) = W := ⟨_, rfl⟩
  have b1 : Below w.heap.size w w1 := hw1 ▸ (Below.refl _ _).alloc (Nat.le_refl _) _
  have b2 : Below w.heap.size w w2 := hw2 ▸ b1.alloc (by omega) _
  have HB3 : Hid (Below w.heap.size w w3) := Lib.hid (hw3 ▸ b2.setCell (p := ⟨w.heap.size + 1, 0, none⟩) (by show w.heap.size ≤ w.heap.size + 1; omega) _)
  have k3 : w3.cell? ⟨w.heap.size + 1, 0, none⟩ = some (.map (some w.heap.size)) := by rw [← hw3]; exact World.cell?_setCell_same (a := ⟨w.heap.size + 1, 0, none⟩) (v := _) (h := k2)
  have HK3 := Lib.hid k3
  have HM3 : Hid (NumAt w3 w.heap.size []) := Lib.hid (by
    have h1 : NumAt w1 w.heap.size [] := hw1 ▸ numAt_new w
    have h2 : NumAt w2 w.heap.size [] := hw2 ▸ h1.kept (World.grownBy_alloc w1 _ none) (by simp)
    exact hw3 ▸ h2.kept (grown_set w2 (w.heap.size + 1) 0 _) (by simp))
  have s3 : w3.heap.size = w.heap.size + 1 + 1 := by rw [← hw3]; simp [s2]
  have HS3 := Lib.hid s3
  have HN1 := Lib.hid (numb_any a n c (w.heap.size + 1) w.heap.size A [] w3 (hA.below HB3.out) hlA hn (by simp) k3 (by omega) HM3.out)
  have HBB := Lib.hid (hB.below HB3.out)
  have HAL : Hid (n ≤ 5000 ∧ A.length = n) := Lib.hid ⟨hn, hA.1⟩
  have HBL : Hid (n' ≤ 5000 ∧ (∀ s ∈ B, s.length ≤ 4000000000)) := Lib.hid ⟨hn', hlB⟩
  have HNE : Hid (∀ b off, a' = some ⟨b, off, none⟩ → 0 < n' → b ≠ w.heap.size) := Lib.hid (fun b off e h0 => by
    subst e
    have h1 := hB.cell 0 h0 0 (.string (strB (gd B 0))) rfl
    have h2 := World.block_lt_of_cell? _ _ h1
    exact Nat.ne_of_lt h2)
  clear hA hB hlA hlB hn hn' b1 b2 e2
  go_enter Tryd.func40, Tryd.ntmps40
  go_wp2_with (first
    | (go_at_call 55; (with_reducible refine HN1.out.mono ?_); rintro e w4 ⟨a4, n4, c4, rfl, ho, hm, hg⟩; have HO4 := Lib.hid ho; have HM4 := Lib.hid hm; have HG4 := Lib.hid hg; have HB4 : Hid (AtG lnK w4 a' n' c' B) := Lib.hid (HBB.out.kept_' hg (fun b off e h0 e2 => HNE.out b off e h0 (Option.some.inj e2))); have k4 := hg.cell HK3.out (by simp); clear ho hm hg)
    | (go_at_call 55; (with_reducible refine (numb_any a' n' c' (w.heap.size + 1) w.heap.size B (numsF [] A).2 w4 HB4.out HBL.out.2 HBL.out.1 (by have h1 := nums_h A []; have h2 := HAL.out; simp at h1; omega) k4 (by omega) HM4.out).mono ?_); rintro e w5 ⟨a5, n5, c5, rfl, ho, hm, hg⟩; have HO5 := Lib.hid ho; have HG5 := Lib.hid hg; clear ho hm hg))
  go_ret2
  have hB4 := HB3.out.trans (grown_low HG4.out (Nat.le_refl _) (by have := HS3.out; omega))
  refine ⟨a4, n4, c4, a5, n5, c5, rfl, ?_, HO5.out.isRuns, hB4.trans (grown_low HG5.out (Nat.le_refl _) hB4.size)⟩
  have h1 : OwnR w5 w3.heap.size (.slice a4 n4 c4) (numsF [] A).1 := World.ownsRow.kept HO4.out HG5.out (by
    cases hv : (Value.slice a4 n4 c4).ownBlock with
    | none => exact .inl rfl
    | some k => exact .inr (fun e => by have h1 := HO4.out.grown k hv; have h2 := HS3.out; have h3 := Option.some.inj e; omega))
  exact h1.isRuns
#print axioms numbers_any
end Go.Proofs.YtfoalaoanpbmeaaDoor
