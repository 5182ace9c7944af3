/-
 slices.Insert of one, at names with ids: walked.
-/
import Derived.Test.YthihmlojdopmfaaDoorGrp10
import Derived.Test.YthihmlojdopmfaaDoorGrp1
namespace Go.Proofs.YthihmlojdopmfaaDoor
open Go.RowKit

theorem wl_copy_run {P : Program} (w : World) {ops : Array Oper} {rest : List Oper} {o : Oper} {a : Act} {Q : Exit → Act → World → Prop} (hgd : o.guard = none) (d s : Operand) (t t' : TypeId)
  (ho : o.op = .call { callee := .builtin .copy, args := #[d, s], argTypes := #[t, t'] }) (v u : Value) (hd : a.eval d = v) (hs : a.eval s = u) {v' : Value} {w' : World}
  (hr : (Builtin.copy_ #[t, t'] o.type #[v, u]).run P w = .ok v' w') (h : wpList P ops Q rest (a.put o.dst v') w') : wpList P ops Q (o :: rest) a w := by
 refine wpList_ok hgd (v := v') ?_ h
 unfold execOp
 simp only [ho, resolve, invoke, builtin, Sem.run_bind, Sem.run_pure, Result.andThen_ok, List.map_toArray, List.map_cons, List.map_nil, hd, hs, hr]
theorem wp_copy_run {P : Program} {w : World} {o : Oper} {a : Act} {K : Act → World → Prop} {Q : Exit → Act → World → Prop} (d s : Operand) (t t' : TypeId)
  (ho : o.op = .call { callee := .builtin .copy, args := #[d, s], argTypes := #[t, t'] }) (v u : Value) (hd : a.eval d = v) (hs : a.eval s = u) {v' : Value} {w' : World}
  (hr : (Builtin.copy_ #[t, t'] o.type #[v, u]).run P w = .ok v' w') (h : K (a.put o.dst v') w') : o.wp P a w K Q := by
 unfold Oper.wp execOp
 simp only [ho, resolve, invoke, builtin, Sem.run_bind, Sem.run_pure, Result.andThen_ok, List.map_toArray, List.map_cons, List.map_nil, hd, hs, hr]
 exact h
section
variable {α : Type} {K : Kind α} {L : List α}
theorem flatG_grow (h : ∀ x ∈ L, K.ok x) {X : α} (hX : K.ok X) {i n : Nat} (hn : L.length = n) (hi : i ≤ n) (xs : List Value) (hx : xs.length = (n + 1) * K.k) (ht : xs.take (i * K.k) = flatG K (L.take i)) :
  putL (putL xs (i * K.k) (K.cells X)) ((i + 1) * K.k) (flatG K (L.drop i)) = flatG K (L.take i ++ X :: L.drop i) := by
 have hd : ∀ x ∈ L.drop i, K.ok x := fun x hx => h x (List.mem_of_mem_drop hx)
 have h2 : (flatG K (L.drop i)).length = (n - i) * K.k := by rw [flatG_length K hd, List.length_drop, hn]
 have h3 : (K.cells X).length = K.k := K.len X hX
 have hm : (n + 1) * K.k = i * K.k + K.k + (n - i) * K.k := by rw [Nat.add_mul, Nat.one_mul, show n * K.k = i * K.k + (n - i) * K.k from by rw [← Nat.add_mul]; congr 1; omega]; omega
 have hs : (i + 1) * K.k = i * K.k + K.k := by rw [Nat.add_mul, Nat.one_mul]
 rw [flatG_append, ← ht, show flatG K (X :: L.drop i) = K.cells X ++ flatG K (L.drop i) from by simp [flatG]]
 have hl : (xs.take (i * K.k)).length = i * K.k := by rw [List.length_take, hx]; exact Nat.min_eq_left (by omega)
 apply List.ext_getElem?
 intro j
 rw [putL_get, putL_length, putL_get, hx, h2, h3, hs]
 by_cases a1 : j < i * K.k
 ·rw [if_neg (by omega), if_neg (by omega), List.getElem?_append_left (by omega), List.getElem?_take, if_pos a1]
 ·by_cases a2 : j < i * K.k + K.k
  ·rw [if_neg (by omega), if_pos ⟨by omega, a2, by omega⟩, List.getElem?_append_right (by omega), hl, List.getElem?_append_left (by omega)]
  ·have hR : (xs.take (i * K.k) ++ (K.cells X ++ flatG K (L.drop i)))[j]? = (flatG K (L.drop i))[j - i * K.k - K.k]? := by
    rw [List.getElem?_append_right (by omega), hl, List.getElem?_append_right (by omega), h3]
   rw [hR]
   by_cases a3 : j < (n + 1) * K.k
   ·rw [if_pos ⟨by omega, by omega, a3⟩]
    congr 1; omega
   ·rw [if_neg (by omega), if_neg (by omega), List.getElem?_eq_none (by omega), List.getElem?_eq_none (by omega)]
end
def InsIs (w : World) (base : Nat) (v : Value) (L : List RName) (n : Nat) (e : Ending) (w' : World) : Prop := ∃ a' c', e = .returned (.slice a' n c') ∧ OwnG rnK NEf w' base (.slice a' n c') L ∧ w.grownBy w' v.ownBlock ∧ Told w v (.slice a' n c')
abbrev FIn : Nat := 93

set_option maxRecDepth 100000 in
set_option maxHeartbeats 1000000 in
theorem insEnd_any (a : Option Addr) (n c base vb : Nat) (L : List RName) (X : RName) (w : World) (h : OwnG rnK NEf w base (.slice a n c) L) (hX : X.2.length = 32) (hv : RowAt w vb NEf (rnL X)) (hb : base ≤ w.heap.size) (hn : n ≤ 1000000) :
  Calls Tryd.prog FIn #[.slice a n c, .int .i64 n, .slice (some ⟨vb, 0, none⟩) 1 1] w (InsIs w base (.slice a n c) (L ++ [X]) (n + 1)) := by
 have hln := h.len
 have HO := Lib.hid h
 have HBS := Lib.hid hb
 have HV : Hid (AtG rnK w (some ⟨vb, 0, none⟩) 1 1 [X]) := Lib.hid ⟨rfl, Nat.le_refl _, by omega, fun y hy => by simp at hy; rw [hy]; exact hX, .inr ⟨_, _, rfl, fun j hj i v hiv => by
  obtain rfl : j = 0 := by omega
  rw [Nat.zero_mul, Nat.zero_add]
  exact hv.cell i hiv⟩⟩
 have HH : Hid ((L.length + 1) * (48 + 1) ≤ 140737488355328) := Lib.hid (by rw [hln]; omega)
 have HR : Hid (n + 1 = L.length + 1) := Lib.hid (by rw [hln])
 have hnc : n ≤ c := h.atG.2.1
 have hcM : c ≤ 9223372036854775807 := h.atG.2.2.1
 have hncI : (n : Int) ≤ (c : Int) := by omega
 have hn0 : (0 : Int) ≤ (n : Int) := by omega
 clear h hv hb hn hln
 by_cases hcn : c = n
 ·go_enter Tryd.func93, Tryd.ntmps93
  go_wp2_with ((with_reducible refine atS 25 ?_); go_must (refine appG_told rnK Tryd.underlying33 infoNf sizeNf rfl _ _ rfl base _ L rfl HO.out _ 1 1 [X] rfl HV.out HH.out HBS.out (n + 1) HR.out ?_); intro a7 c7 W7 ho7 hg7 ht7; have HO7 := Lib.hid ho7; have HG7 : Hid (w.grownBy W7 (Value.slice a n c).ownBlock) := Lib.hid hg7; have HT7 : Hid (Told w (Value.slice a n c) (.slice a7 (n + 1) c7)) := Lib.hid ht7; clear ho7 hg7 ht7)
  go_ret
  exact ⟨a7, c7, rfl, HO7.out, HG7.out, HT7.out⟩
 ·have hcn2 : (c = n) = False := eq_false hcn
  go_enter Tryd.func93, Tryd.ntmps93
  go_wp2_with ((with_reducible refine atS 25 ?_); go_must (refine appG_told rnK Tryd.underlying33 infoNf sizeNf rfl _ _ rfl base _ L rfl HO.out _ 1 1 [X] rfl HV.out HH.out HBS.out (n + 1) HR.out ?_); intro a7 c7 W7 ho7 hg7 ht7; have HO7 := Lib.hid ho7; have HG7 : Hid (w.grownBy W7 (Value.slice a n c).ownBlock) := Lib.hid hg7; have HT7 : Hid (Told w (Value.slice a n c) (.slice a7 (n + 1) c7)) := Lib.hid ht7; clear ho7 hg7 ht7)
  go_ret
  exact ⟨a7, c7, rfl, HO7.out, HG7.out, HT7.out⟩

set_option maxRecDepth 100000 in
set_option maxHeartbeats 2000000 in
theorem insRoom_any (g n c i base vb : Nat) (L : List RName) (X : RName) (w : World) (h : OwnG rnK NEf w base (.slice (some ⟨g, 0, none⟩) n c) L) (hX : X.2.length = 32) (hv : RowAt w vb NEf (rnL X)) (hvb : vb ≠ g) (hi : i < n) (hroom : n + 1 ≤ c) (hn : n ≤ 1000000) :
  Calls Tryd.prog FIn #[.slice (some ⟨g, 0, none⟩) n c, .int .i64 i, .slice (some ⟨vb, 0, none⟩) 1 1] w (InsIs w base (.slice (some ⟨g, 0, none⟩) n c) (L.take i ++ X :: L.drop i) (n + 1)) := by
 have hln := h.len
 have hown0 : w.ownsRow base NEf 33 (.slice (some ⟨g, 0, none⟩) n c) n (flatG rnK L) := hln ▸ h.1
 obtain ⟨hnc, hcm, hgl, hgb, cur, hcur, hcsz⟩ := own_cap hown0
 have hcM : c ≤ 9223372036854775807 := by unfold maxLen at hcm; omega
 obtain ⟨ys, hown1, hys⟩ := own_more hown0 (Nat.le_succ n) hroom
 have hfl : (flatG rnK L).length = n * 33 := by rw [flatG_len h.2, hln]; rfl
 obtain ⟨news, hnews⟩ : ∃ news, news = flatG rnK (L.drop i) := ⟨_, rfl⟩
 have hdok : ∀ x ∈ L.drop i, rnK.ok x := fun x hx => h.2 x (List.mem_of_mem_drop hx)
 have hnl : news.length = (n - i) * 33 := by rw [hnews, flatG_len hdok, List.length_drop, hln]; rfl
 have hdr : (flatG rnK L).drop (i * 33) = news := by rw [hnews]; exact flatG_drop h.2 i
 have hsz : (Tryd.prog.info? NEf).map (·.size) = some 33 := by kernel_rfl
 obtain ⟨W1, hW1⟩ : ∃ W1, W1 = w.drew.setCells g ((i + 1) * 33) news := ⟨_, rfl⟩
 obtain ⟨ho1, hg1⟩ := own_setCells news ((i + 1) * 33) (w := w.drew) hown1
 rw [← hW1] at ho1 hg1
 have hcp1 : ∀ ty dc sc, (Builtin.copy_ #[33, 33] ty #[.slice (some ⟨g, (i + 1) * 33, none⟩) (n - i) dc, .slice (some ⟨g, i * 33, none⟩) (n + 1 - i) sc]).run Tryd.prog w.drew = .ok (goInt ((n - i : Nat) : Int)) W1 := fun ty dc sc => by
  rw [hW1]
  exact run_copy_k w.drew _ _ ty NEf 33 g ((i + 1) * 33) (n - i) dc ⟨g, i * 33, none⟩ (n + 1 - i) sc (n - i) news Tryd.underlying33 hsz (by simp only [Nat.min_def]; split <;> omega) hnl
   (fun j v hj => by
    rw [Addr.add_lit]
    rw [← hdr, List.getElem?_drop] at hj
    have hlt := (List.getElem?_eq_some_iff.1 hj).1
    exact (World.ownsRow.cellAt hown0 (i * 33 + j) (by rw [hfl] at hlt; exact hlt)).trans hj)
   (fun j hj => own_there (w := w.drew) hown1 _ (by rw [hnl] at hj; omega)) (by rw [hnews]; exact flatG_one rnK hdok)
 obtain ⟨ho2, hg2⟩ := own_setCells (rnL X) (i * 33) ho1
 have hcp2 : ∀ ty dc, (Builtin.copy_ #[33, 33] ty #[.slice (some ⟨g, i * 33, none⟩) (n + 1 - i) dc, .slice (some ⟨vb, 0, none⟩) 1 1]).run Tryd.prog W1 = .ok (goInt 1) (W1.setCells g (i * 33) (rnL X)) := fun ty dc => by
  have hv1 : RowAt W1 vb NEf (rnL X) := by
   unfold RowAt
   rw [hg1.block vb (by show vb < w.heap.size; exact hv.lt) (fun e => hvb (Option.some.inj e))]
   exact hv
  exact run_copy_k W1 _ _ ty NEf 33 g (i * 33) (n + 1 - i) dc ⟨vb, 0, none⟩ 1 1 1 (rnL X) Tryd.underlying33 hsz (by simp only [Nat.min_def]; split <;> omega) (rnL_len hX)
   (fun j v hj => by
    rw [Addr.add_lit, Nat.zero_add]
    exact hv1.cell j hj)
   (fun j hj => own_there ho1 _ (by rw [rnL_len hX] at hj; omega)) (rnL_one X)
 have hov : ∀ lb cb, (callFunc 98 #[.slice (some ⟨vb, 0, none⟩) 1 1, .slice (some ⟨g, (i + 1) * 33, none⟩) lb cb]).run Tryd.prog w = .ok (.value (.bool false)) w := fun lb cb => by
  rw [run_callFunc_extern Tryd.func98 (by kernel_rfl) (by kernel_rfl) (by kernel_rfl) (e := Extern.SlicesOverlaps.overlaps #[33, 33] #[4]) (by kernel_rfl),
   Lib.run_overlaps_apart w 33 4 NEf Tryd.underlying33 33 (fun w => by kernel_rfl) ⟨vb, 0, none⟩ ⟨g, (i + 1) * 33, none⟩ 1 1 lb cb hvb NEf NEf 33 (c * 33) (by unfold RowAt at hv; simp [World.shape?, hv, rnL_len hX]) (by simp [World.shape?, hcur, hcsz]) (by omega) (hv.free 0) (hv.free 33)]
  rfl
 have HFIN := Lib.hid (flatG_insert h.2 (show rnK.ok X from hX) hln (Nat.le_of_lt hi) ys (by rw [hys]; show (n + 1 - n) * 33 = 33; rw [show n + 1 - n = 1 by omega]))
 have HO2 := Lib.hid ho2
 have HG2 : Hid (w.grownBy (W1.setCells g (i * 33) (rnL X)) (some g)) := Lib.hid ((show w.grownBy W1 (some g) from ⟨hg1.os, hg1.tape, hg1.output, hg1.size, hg1.block⟩).trans hg2)
 have HNE := Lib.hid hnews
 have HLN := Lib.hid hln
 have HOK := Lib.hid h.2
 have HXX := Lib.hid hX
 have HIN := Lib.hid hi
 have hi0 : (0 : Int) ≤ (i : Int) := by omega
 have hiI : (i : Int) < (n : Int) := by omega
 have hiL : (i : Int) ≤ (n : Int) := by omega
 have hnI : (n : Int) ≤ 1000000 := by omega
 have hncI : (n : Int) ≤ (c : Int) := by omega
 have hrI : (n : Int) + 1 ≤ (c : Int) := by omega
 have hcI : (c : Int) ≤ 9223372036854775807 := by omega
 have hne : ¬ ((i : Int) = (n : Int)) := by omega
 have hnr : ¬ ((c : Int) < (n : Int) + 1) := by omega
 have hwn : IntKind.i64.wrap ((n : Int) + 1) = (n : Int) + 1 := IntWalk.i64_in _ (by omega)
 have hwi : IntKind.i64.wrap ((i : Int) + 1) = (i : Int) + 1 := IntWalk.i64_in _ (by omega)
 have htn : ((i : Int) + 1).toNat = i + 1 := by omega
 have htn2 : ((n : Int) + 1).toNat = n + 1 := by omega
 have hi1 : (0 : Int) ≤ (i : Int) + 1 := by omega
 have hi2 : (i : Int) + 1 ≤ (n : Int) + 1 := by omega
 have hi3 : (i : Int) ≤ (n : Int) + 1 := by omega
 have hn1 : (0 : Int) ≤ (n : Int) + 1 := by omega
 have hb2 : ¬ (c = i + 1) := by omega
 have hb4 : ¬ (c = i) := by omega
 clear hW1 hnews hdok hnl hfl hdr hown0 hown1 ho1 ho2 hg1 hg2 h hgl hgb hcm hln hys hcur hcsz hv hvb hi hsz hroom hX
 go_enter Tryd.func93, Tryd.ntmps93
 go_wp2_with (simp only [hov])
 go_region_law ((refine wp_copy_run _ _ 33 33 rfl _ _ (by simp [Act.eval, Act.put]) (by simp [Act.eval, Act.put]) (hcp1 _ _ _) ?_))
 go_wp2_with ((with_reducible refine atS 82 ?_); go_must (refine wl_copy_run _ rfl _ _ 33 33 rfl _ _ rfl rfl (hcp2 _ _) ?_))
 go_ret
 have hle : (L.take i ++ X :: L.drop i).length = n + 1 := by
  rw [List.length_append, List.length_cons, List.length_take, List.length_drop, HLN.out]
  have := HIN.out
  omega
 refine ⟨some ⟨g, 0, none⟩, c, rfl, ⟨?_, fun x hx => ?_⟩, HG2.out, .inl rfl⟩
 ·rw [hle, ← HFIN.out]
  have := HO2.out
  rw [HNE.out] at this
  exact this
 ·rcases List.mem_append.1 hx with hx | hx
  ·exact HOK.out x (List.mem_of_mem_take hx)
  ·rcases List.mem_cons.1 hx with rfl | hx
   ·exact HXX.out
   ·exact HOK.out x (List.mem_of_mem_drop hx)

set_option maxRecDepth 100000 in
set_option maxHeartbeats 2000000 in
theorem insGrow_any (g n c i base vb : Nat) (L : List RName) (X : RName) (w : World) (h : OwnG rnK NEf w base (.slice (some ⟨g, 0, none⟩) n c) L) (hX : X.2.length = 32) (hv : RowAt w vb NEf (rnL X)) (hi : i < n) (hroom : c < n + 1) (hn : n ≤ 1000000) (hb : base ≤ w.heap.size) :
  Calls Tryd.prog FIn #[.slice (some ⟨g, 0, none⟩) n c, .int .i64 i, .slice (some ⟨vb, 0, none⟩) 1 1] w (InsIs w base (.slice (some ⟨g, 0, none⟩) n c) (L.take i ++ X :: L.drop i) (n + 1)) := by
 have hln := h.len
 have hown0 : w.ownsRow base NEf 33 (.slice (some ⟨g, 0, none⟩) n c) n (flatG rnK L) := hln ▸ h.1
 obtain ⟨hnc, hcm, hgl, hgb, cur, hcur, hcsz⟩ := own_cap hown0
 have hcM : c ≤ 9223372036854775807 := by unfold maxLen at hcm; omega
 have hfl : (flatG rnK L).length = n * 33 := by rw [flatG_len h.2, hln]; rfl
 obtain ⟨news, hnews⟩ : ∃ news, news = flatG rnK (L.drop i) := ⟨_, rfl⟩
 have hdok : ∀ x ∈ L.drop i, rnK.ok x := fun x hx => h.2 x (List.mem_of_mem_drop hx)
 have hnl : news.length = (n - i) * 33 := by rw [hnews, flatG_len hdok, List.length_drop, hln]; rfl
 have hdr : (flatG rnK L).drop (i * 33) = news := by rw [hnews]; exact flatG_drop h.2 i
 have hsz : (Tryd.prog.info? NEf).map (·.size) = some 33 := by kernel_rfl
 obtain ⟨i0, hi0, hz0, hz1, hz2⟩ := info_parts infoNf
 have hol : ((flatG rnK L).take (i * 33)).length = i * 33 := by rw [List.length_take, hfl]; exact Nat.min_eq_left (by omega)
 have hold : (Builtin.firstCells i0.size i (.slice (some ⟨g, 0, none⟩) i c)).run Tryd.prog w.drew = .ok ((flatG rnK L).take (i * 33)).toArray w.drew := by
  rw [hz1]
  exact run_firstCells_some w.drew 33 i ⟨g, 0, none⟩ i c _ hol (fun j v hj => by
   rw [Addr.add_lit, Nat.zero_add]
   rw [List.getElem?_take] at hj
   split at hj
   ·exact (World.ownsRow.cellAt hown0 j (by omega)).trans hj
   ·cases hj)
 obtain ⟨G, hG⟩ : ∃ G, G = grownCap w (n + 1) c NEf := ⟨_, rfl⟩
 obtain ⟨ROW, hROW⟩ : ∃ ROW : Array Value, ROW = ((flatG rnK L).take (i * 33)).toArray ++ Builtin.zeroCells (Value.agg (rnL ([], zId)).toArray).cells (n + 1 - i) ++ Builtin.zeroCells (Value.agg (rnL ([], zId)).toArray).cells (G - (n + 1)) := ⟨_, rfl⟩
 have hGn : n + 1 ≤ G := by rw [hG]; exact grownCap_ge w _ _ _
 have hGm : G ≤ maxLen := by rw [hG]; exact grownCap_le_maxLen w (n + 1) c NEf (by unfold maxLen; omega)
 have hzl : ∀ m, (Builtin.zeroCells (Value.agg (rnL ([], zId)).toArray).cells m).size = m * 33 := fun m => by
  show ((Array.range (m * _)).map _).size = _
  rw [Array.size_map, Array.size_range]
  rfl
 have hRl : ROW.size = G * 33 := by
  rw [hROW, Array.size_append, Array.size_append, hzl, hzl, List.size_toArray, hol]
  omega
 have hrz : ∀ ty, (Builtin.append_ #[33, 3] ty #[.slice (some ⟨g, 0, none⟩) i c, .int .i64 ((n : Int) + 1 - (i : Int))]).run Tryd.prog w = .ok (.slice (some ⟨w.heap.size, 0, none⟩) (n + 1) G) (w.drew.alloc (.cells ROW NEf)) := fun ty => by
  have hik : i + (n + 1 - i) = n + 1 := by omega
  have hkk : (n : Int) + 1 - (i : Int) = ((n + 1 - i : Nat) : Int) := by omega
  have hh := Lib.run_append_grow_zeros w 33 3 ty NEf i0 _ .i64 .i64 Tryd.underlying33 Tryd.underlying3 hi0 hz0 (some ⟨g, 0, none⟩) i c ((flatG rnK L).take (i * 33)) hold (n + 1 - i) (by omega) (by omega) (by omega) (by omega) (by rw [hz2]; omega) (by rw [hz2, hik]; exact growslice_fits hroom (by omega))
  rw [hik, ← hG, ← hROW] at hh
  rw [hkk]
  exact hh
 obtain ⟨W1, hW1⟩ : ∃ W1, W1 = w.drew.alloc (.cells ROW NEf) := ⟨_, rfl⟩
 have ho0 := own_less (World.ownsRow_lit (base := base) (e := NEf) (size := 33) w.drew ROW G hb hGm hRl) hGn
 have hxs : (ROW.toList.take ((n + 1) * 33)).length = (n + 1) * 33 := ho0.1
 have hxt : (ROW.toList.take ((n + 1) * 33)).take (i * 33) = flatG rnK (L.take i) := by
  rw [List.take_take, Nat.min_eq_left (by omega), hROW, Array.toList_append, Array.toList_append, List.append_assoc, List.take_append_of_le_length (by rw [List.toList_toArray, hol]; exact Nat.le_refl _), List.toList_toArray, List.take_of_length_le (by omega)]
  exact flatG_take h.2 i
 obtain ⟨xs, hxsE⟩ : ∃ xs, xs = ROW.toList.take ((n + 1) * 33) := ⟨_, rfl⟩
 rw [← hxsE] at ho0 hxs hxt
 have ho0' : W1.ownsRow base NEf 33 (.slice (some ⟨w.heap.size, 0, none⟩) (n + 1) G) (n + 1) xs := by rw [hW1]; exact ho0
 have hga := World.grownBy_alloc w.drew (.cells ROW NEf) none
 have hg0 : w.grownBy W1 none := by rw [hW1]; exact ⟨hga.os, hga.tape, hga.output, hga.size, hga.block⟩
 have hvb : vb < w.heap.size := hv.lt
 have hv1 : RowAt W1 vb NEf (rnL X) := by unfold RowAt; rw [hg0.block vb hvb (by simp)]; exact hv
 have hcp1 : ∀ ty dc, (Builtin.copy_ #[33, 33] ty #[.slice (some ⟨w.heap.size, i * 33, none⟩) (n + 1 - i) dc, .slice (some ⟨vb, 0, none⟩) 1 1]).run Tryd.prog W1 = .ok (goInt 1) (W1.setCells w.heap.size (i * 33) (rnL X)) := fun ty dc =>
  run_copy_k W1 _ _ ty NEf 33 w.heap.size (i * 33) (n + 1 - i) dc ⟨vb, 0, none⟩ 1 1 1 (rnL X) Tryd.underlying33 hsz (by simp only [Nat.min_def]; split <;> omega) (rnL_len hX)
   (fun j v hj => by
    rw [Addr.add_lit, Nat.zero_add]
    exact hv1.cell j hj)
   (fun j hj => own_there ho0' _ (by rw [rnL_len hX] at hj; omega)) (rnL_one X)
 obtain ⟨ho1, hg1⟩ := own_setCells (rnL X) (i * 33) ho0'
 obtain ⟨W2, hW2⟩ : ∃ W2, W2 = W1.setCells w.heap.size (i * 33) (rnL X) := ⟨_, rfl⟩
 rw [← hW2] at ho1 hg1 hcp1
 have hgne : g ≠ w.heap.size := by omega
 have hgW : W2.heap[g]? = w.heap[g]? := by
  rw [hg1.block g (Nat.lt_of_lt_of_le hgl hg0.size) (fun e => hgne (Option.some.inj e)), hg0.block g hgl (by simp)]
 have hcp2 : ∀ ty dc sc, (Builtin.copy_ #[33, 33] ty #[.slice (some ⟨w.heap.size, (i + 1) * 33, none⟩) (n - i) dc, .slice (some ⟨g, i * 33, none⟩) (n - i) sc]).run Tryd.prog W2.drew = .ok (goInt ((n - i : Nat) : Int)) (W2.drew.setCells w.heap.size ((i + 1) * 33) news) := fun ty dc sc =>
  run_copy_k W2.drew _ _ ty NEf 33 w.heap.size ((i + 1) * 33) (n - i) dc ⟨g, i * 33, none⟩ (n - i) sc (n - i) news Tryd.underlying33 hsz (by simp only [Nat.min_def]; split <;> omega) hnl
   (fun j v hj => by
    rw [Addr.add_lit]
    rw [← hdr, List.getElem?_drop] at hj
    have hlt := (List.getElem?_eq_some_iff.1 hj).1
    have h2 := (World.ownsRow.cellAt hown0 (i * 33 + j) (by rw [hfl] at hlt; exact hlt)).trans hj
    rw [cell_of_row w g _ cur NEf (0, 0) hcur] at h2
    rw [cell_of_row W2.drew g _ cur NEf (0, 0) (hgW.trans hcur)]
    exact h2)
   (fun j hj => own_there (w := W2.drew) ho1 _ (by rw [hnl] at hj; omega)) (by rw [hnews]; exact flatG_one rnK hdok)
 obtain ⟨ho2, hg2⟩ := own_setCells news ((i + 1) * 33) (w := W2.drew) ho1
 have HFIN := Lib.hid (flatG_grow h.2 (show rnK.ok X from hX) hln (Nat.le_of_lt hi) xs hxs hxt)
 have HO2 := Lib.hid ho2
 have HG2 : Hid (w.grownBy (W2.drew.setCells w.heap.size ((i + 1) * 33) news) none) := Lib.hid ⟨hg2.os.trans (hg1.os.trans hg0.os), hg2.tape.trans (hg1.tape.trans hg0.tape), hg2.output.trans (hg1.output.trans hg0.output), Nat.le_trans hg0.size (Nat.le_trans hg1.size hg2.size), fun k hk hkn => by
  have hk1 : k ≠ w.heap.size := by omega
  rw [hg2.block k (Nat.lt_of_lt_of_le hk (Nat.le_trans hg0.size hg1.size)) (fun e => hk1 (Option.some.inj e))]
  show W2.heap[k]? = _
  rw [hg1.block k (Nat.lt_of_lt_of_le hk hg0.size) (fun e => hk1 (Option.some.inj e)), hg0.block k hk hkn]⟩
 have HNE := Lib.hid hnews
 have HLN := Lib.hid hln
 have HOK := Lib.hid h.2
 have HXX := Lib.hid hX
 have HIN := Lib.hid hi
 have HW1 := Lib.hid hW1
 have hi0 : (0 : Int) ≤ (i : Int) := by omega
 have hiI : (i : Int) < (n : Int) := by omega
 have hiL : (i : Int) ≤ (n : Int) := by omega
 have hnI : (n : Int) ≤ 1000000 := by omega
 have hncI : (n : Int) ≤ (c : Int) := by omega
 have hrI : (c : Int) < (n : Int) + 1 := by omega
 have hcI : (c : Int) ≤ 9223372036854775807 := by omega
 have hne : ¬ ((i : Int) = (n : Int)) := by omega
 have hwn : IntKind.i64.wrap ((n : Int) + 1) = (n : Int) + 1 := IntWalk.i64_in _ (by omega)
 have hwi : IntKind.i64.wrap ((i : Int) + 1) = (i : Int) + 1 := IntWalk.i64_in _ (by omega)
 have hwd : IntKind.i64.wrap ((n : Int) + 1 - (i : Int)) = (n : Int) + 1 - (i : Int) := IntWalk.i64_in _ (by omega)
 have htn : ((i : Int) + 1).toNat = i + 1 := by omega
 have htn2 : ((n : Int) + 1).toNat = n + 1 := by omega
 have hi1 : (0 : Int) ≤ (i : Int) + 1 := by omega
 have hi2 : (i : Int) + 1 ≤ (n : Int) + 1 := by omega
 have hi3 : (i : Int) ≤ (n : Int) + 1 := by omega
 have hb2 : ¬ (c = i) := by omega
 have hb4 : ¬ (G = i) := by omega
 have hb5 : ¬ (G = i + 1) := by omega
 have hGL : G ≤ 9223372036854775807 := by unfold maxLen at hGm; omega
 have HWS : Hid (w.heap.size = w.heap.size) := Lib.hid rfl
 have HW2 := Lib.hid hW2
 clear hnews hdok hnl hfl hdr hown0 ho0 ho0' ho1 ho2 hg0 hg1 hg2 hga h hgl hgb hcm hln hcur hcsz hv hv1 hvb hi hsz hroom hX hG hROW hRl hzl hxs hxt hxsE hGm hol hold hgne hgW hW1 hW2 hi0 hz0 hz1 hz2 hb
 have hi0 : (0 : Int) ≤ (i : Int) := by omega
 go_enter Tryd.func93, Tryd.ntmps93
 go_wp2_with (first
  | ((with_reducible refine atS 40 ?_); go_must (refine Lib.wpList_append_run _ rfl _ _ _ _ rfl _ _ rfl rfl _ _ (hrz _) ?_); rw [← HW1.out])
  | ((with_reducible refine atS 45 ?_); go_must (refine wl_copy_run _ rfl _ _ 33 33 rfl _ _ rfl rfl (hcp1 _ _) ?_)))
 go_region_law ((refine wp_copy_run _ _ 33 33 rfl _ _ (by simp [Act.eval, Act.put]) (by simp [Act.eval, Act.put]) (hcp2 _ _ _) ?_))
 go_wp2
 go_ret
 have hle : (L.take i ++ X :: L.drop i).length = n + 1 := by
  rw [List.length_append, List.length_cons, List.length_take, List.length_drop, HLN.out]
  have := HIN.out
  omega
 refine ⟨some ⟨w.heap.size, 0, none⟩, G, rfl, ⟨?_, fun x hx => ?_⟩, HG2.out.but _, .inr ⟨w.heap.size, rfl, Nat.le_refl _⟩⟩
 ·rw [hle, ← HFIN.out]
  have := HO2.out
  rw [HNE.out] at this ⊢
  exact this
 ·rcases List.mem_append.1 hx with hx | hx
  ·exact HOK.out x (List.mem_of_mem_take hx)
  ·rcases List.mem_cons.1 hx with rfl | hx
   ·exact HXX.out
   ·exact HOK.out x (List.mem_of_mem_drop hx)
theorem insert_any (a : Option Addr) (n c i base vb : Nat) (L : List RName) (X : RName) (w : World) (h : OwnG rnK NEf w base (.slice a n c) L) (hX : X.2.length = 32) (hv : RowAt w vb NEf (rnL X)) (hvb : ∀ k, (Value.slice a n c).ownBlock = some k → vb ≠ k) (hi : i ≤ n) (hn : n ≤ 1000000) (hb : base ≤ w.heap.size) :
  Calls Tryd.prog FIn #[.slice a n c, .int .i64 i, .slice (some ⟨vb, 0, none⟩) 1 1] w (InsIs w base (.slice a n c) (L.take i ++ X :: L.drop i) (n + 1)) := by
 rcases Nat.lt_or_ge i n with h1 | h1
 ·obtain ⟨g, rfl, _⟩ := h.row (by omega)
  rcases Nat.lt_or_ge c (n + 1) with h2 | h2
  ·exact insGrow_any g n c i base vb L X w h hX hv h1 h2 hn hb
  ·exact insRoom_any g n c i base vb L X w h hX hv (hvb g rfl) h1 h2 hn
 ·obtain rfl : i = n := by omega
  have e : L.take i ++ X :: L.drop i = L ++ [X] := by rw [List.take_of_length_le (by rw [h.len]; exact Nat.le_refl _), List.drop_eq_nil_of_le (by rw [h.len]; exact Nat.le_refl _)]
  rw [e]
  exact insEnd_any a i c base vb L X w h hX hv hb hn
end Go.Proofs.YthihmlojdopmfaaDoor
