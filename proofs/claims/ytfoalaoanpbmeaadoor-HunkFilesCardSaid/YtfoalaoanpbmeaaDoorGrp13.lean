/-
  Merged: HkTop, HkBy.
-/
import Derived.Test.YtfoalaoanpbmeaaDoorHkGo
import Derived.Test.YtfoalaoanpbmeaaDoorGrp11
import Derived.Test.YtfoalaoanpbmeaaDoorGrp12
namespace Go.Proofs.YtfoalaoanpbmeaaDoor
open Go.RowKit Go.Lib

/-- Are these bytes a text? -/
def txtF (l : List UInt8) : Bool := (chkE l).2 == 0
set_option maxRecDepth 100000 in
theorem htext_any (s : ByteArray) (w : World) (hs : s.size ≤ 4000000000) (hT : Tabs w) (q : Bool) (hq : txtF s.data.toList = q) :
    Calls Tryd.prog 19 #[.string s] w fun e w' => e = .returned (.bool q) ∧ Below w.heap.size w w' := by
  have HC := Lib.hid (check_any s w (by omega) hT)
  obtain ⟨p, r, hpr⟩ : ∃ p r, chkE s.data.toList = (p, r) := ⟨_, _, rfl⟩
  rw [hpr] at HC
  have hr : (r == 0) = q := by rw [← hq]; unfold txtF; rw [hpr]
  have hrI : ((r : Int) == 0) = q := by
    rw [← hr]
    by_cases h : r = 0
    · subst h; rfl
    · rw [beq_eq_false_iff_ne.2 h, beq_eq_false_iff_ne]; omega
  clear hs hT hpr hq hr
  go_enter Tryd.func19, Tryd.ntmps19
  go_wp2_with (go_at_call 38; go_must (refine HC.out.mono ?_); rintro e w1 ⟨rfl, hb⟩; have HB := Lib.hid hb; clear hb)
  go_ret
  exact ⟨rfl, HB.out⟩
/-- What Hunks answers. -/
def topF (a b : List UInt8) : List HkV × Nat :=
  if txtF a && txtF b then
    if max (linesF a).length (linesF b).length > 4096 then ([], 2) else (hunksF (linesF a) (linesF b), 0)
  else ([], 5)
def TopIs (R : List HkV × Nat) (w : World) (e : Ending) (w' : World) : Prop := ∃ a c base V, e = .returned (.tuple #[.slice a V.length c, .int .i64 (R.2 : Nat)]) ∧ V.map (·.1) = R.1 ∧ HkH w' base a c V ∧ w.heap.size ≤ base ∧ Below w.heap.size w w'
theorem hkH_nil (W : World) (base : Nat) : HkH W base none 0 [] := by
  refine ⟨⟨fun h hm => ?_, List.pairwise_singleton _ _⟩, (fun x hx => by cases hx)⟩
  obtain rfl : h = rowH none 0 [] := by simpa using hm
  exact World.ownsRow_nil _ _ _ _
theorem top_none (e : Nat) (w w' : World) (hb : Below w.heap.size w w') : TopIs ([], e) w (.returned (.tuple #[.slice none 0 0, .int .i64 (e : Nat)])) w' := ⟨none, 0, w.heap.size, [], rfl, rfl, hkH_nil _ _, Nat.le_refl _, hb⟩
theorem lines_small (l : List UInt8) : ∀ s ∈ linesF l, s.length ≤ l.length := fun s hs => by
  have h := lines_flat l
  have h2 : s.length ≤ (linesF l).flatten.length := (List.sublist_flatten_of_mem hs).length_le
  rw [h] at h2; exact h2
set_option maxRecDepth 100000 in
set_option maxHeartbeats 4000000 in
theorem top_any (s t : ByteArray) (w : World) (hs : s.size ≤ 4000000000) (ht : t.size ≤ 4000000000) (hT : Tabs w) :
    Calls Tryd.prog 8 #[.string s, .string t] w (TopIs (topF s.data.toList t.data.toList) w) := by
  obtain ⟨qa, hqa⟩ : ∃ q, txtF s.data.toList = q := ⟨_, rfl⟩
  obtain ⟨qb, hqb⟩ : ∃ q, txtF t.data.toList = q := ⟨_, rfl⟩
  have H1 := Lib.hid (htext_any s w hs hT qa hqa)
  have HT := Lib.hid hT
  have HZ : Hid (s.size ≤ 4000000000 ∧ t.size ≤ 4000000000) := Lib.hid ⟨hs, ht⟩
  have HQ := Lib.hid hqb
  cases qa with
  | false =>
    have e : topF s.data.toList t.data.toList = ([], 5) := by unfold topF; rw [hqa]; rfl
    rw [e]
    clear hs ht hT hqa hqb e
    go_enter Tryd.func8, Tryd.ntmps8
    go_wp2_with (go_at_call 19; go_must (refine H1.out.mono ?_); rintro e w1 ⟨rfl, hb⟩; have HB1 := Lib.hid hb; clear hb)
    go_ret2
    exact top_none 5 _ _ HB1.out
  | true =>
    cases qb with
    | false =>
      have e : topF s.data.toList t.data.toList = ([], 5) := by unfold topF; rw [hqa, hqb]; rfl
      rw [e]
      clear hs ht hT hqa hqb e
      go_enter Tryd.func8, Tryd.ntmps8
      go_wp2_with (first
        | (go_at_call 19; (with_reducible refine H1.out.mono ?_); rintro e w1 ⟨rfl, hb⟩; have HB1 := Lib.hid hb; clear hb)
        | (go_at_call 19; (with_reducible refine (htext_any t w1 HZ.out.2 (HT.out.below HB1.out) false HQ.out).mono ?_); rintro e w2 ⟨rfl, hb⟩; have HB2 := Lib.hid (HB1.out.trans (hb.mono HB1.out.size)); clear hb))
      go_ret2
      exact top_none 5 _ _ HB2.out
    | true =>
      obtain ⟨A, hA⟩ : ∃ A, linesF s.data.toList = A := ⟨_, rfl⟩
      obtain ⟨B, hB⟩ : ∃ B, linesF t.data.toList = B := ⟨_, rfl⟩
      have HLA : Hid (∀ x ∈ A, x.length ≤ 4000000000) := Lib.hid (fun x hx => by have h1 := lines_small s.data.toList x (hA ▸ hx); rw [← Lib.size_eq] at h1; omega)
      have HLB : Hid (∀ x ∈ B, x.length ≤ 4000000000) := Lib.hid (fun x hx => by have h1 := lines_small t.data.toList x (hB ▸ hx); rw [← Lib.size_eq] at h1; omega)
      have HA := Lib.hid hA
      have HB := Lib.hid hB
      obtain ⟨n, hn⟩ : ∃ n, A.length = n := ⟨_, rfl⟩
      obtain ⟨m, hm⟩ : ∃ m, B.length = m := ⟨_, rfl⟩
      obtain ⟨mx, hmx⟩ : ∃ mx, max n m = mx := ⟨_, rfl⟩
      have HMX : Hid ((mx : Int) = if (n : Int) < (m : Int) then (m : Int) else (n : Int)) := Lib.hid (by split <;> omega)
      have HNM : Hid (A.length = n ∧ B.length = m ∧ max n m = mx) := Lib.hid ⟨hn, hm, hmx⟩
      by_cases hbig : (4096 : Int) < (mx : Int)
      · have d1 : decide ((4096 : Int) < (mx : Int)) = true := decide_eq_true hbig
        have e : topF s.data.toList t.data.toList = ([], 2) := by unfold topF; rw [hqa, hqb, hA, hB]; simp only [Bool.and_self, if_true]; rw [if_pos (by omega)]
        rw [e]
        clear hs ht hT hqa hqb e hA hB hn hm hmx
        go_enter Tryd.func8, Tryd.ntmps8
        go_wp2_with (first
          | (go_at_call 19; (with_reducible refine H1.out.mono ?_); rintro e w1 ⟨rfl, hb⟩; have HB1 := Lib.hid hb; clear hb)
          | (go_at_call 19; (with_reducible refine (htext_any t w1 HZ.out.2 (HT.out.below HB1.out) true HQ.out).mono ?_); rintro e w2 ⟨rfl, hb⟩; have HB2 := Lib.hid (HB1.out.trans (hb.mono HB1.out.size)); clear hb)
          | (go_at_call 13; (with_reducible refine (split_any s w2 HZ.out.1).mono ?_); rintro e w3 ⟨a3, n3, c3, rfl, ho, hb⟩; rw [HA.out] at ho; obtain rfl : n3 = n := ho.1.symm.trans HNM.out.1; have HO3 := Lib.hid ho; have HB3 := Lib.hid (HB2.out.trans (hb.mono HB2.out.size)); clear ho hb)
          | (go_at_call 13; (with_reducible refine (split_any t w3 HZ.out.2).mono ?_); rintro e w4 ⟨a4, n4, c4, rfl, ho, hb⟩; rw [HB.out] at ho; obtain rfl : n4 = m := ho.1.symm.trans HNM.out.2.1; have HO4 := Lib.hid ho; have HP4 := Lib.hid (HO3.out.below hb); have HB4 := Lib.hid (HB3.out.trans (hb.mono HB3.out.size)); clear ho hb)
          | (refine wl_maxH rfl _ _ _ rfl (n3 : Int) (n4 : Int) (mx : Int) rfl rfl HMX.out ?_))
        go_ret2
        exact top_none 2 _ _ HB4.out
      · have d1 : decide ((4096 : Int) < (mx : Int)) = false := decide_eq_false hbig
        have d1n : decide (4096 < mx) = false := decide_eq_false (by omega)
        have HL : Hid (n ≤ 4096 ∧ m ≤ 4096) := Lib.hid ⟨by omega, by omega⟩
        have e : topF s.data.toList t.data.toList = (hunksF A B, 0) := by unfold topF; rw [hqa, hqb, hA, hB]; simp only [Bool.and_self, if_true]; rw [if_neg (by omega)]
        rw [e]
        clear hs ht hT hqa hqb e hA hB hn hm hmx
        go_enter Tryd.func8, Tryd.ntmps8
        go_wp2_with (first
          | (go_at_call 19; (with_reducible refine H1.out.mono ?_); rintro e w1 ⟨rfl, hb⟩; have HB1 := Lib.hid hb; clear hb)
          | (go_at_call 19; (with_reducible refine (htext_any t w1 HZ.out.2 (HT.out.below HB1.out) true HQ.out).mono ?_); rintro e w2 ⟨rfl, hb⟩; have HB2 := Lib.hid (HB1.out.trans (hb.mono HB1.out.size)); clear hb)
          | (go_at_call 13; (with_reducible refine (split_any s w2 HZ.out.1).mono ?_); rintro e w3 ⟨a3, n3, c3, rfl, ho, hb⟩; rw [HA.out] at ho; obtain rfl : n3 = n := ho.1.symm.trans HNM.out.1; have HO3 := Lib.hid ho; have HB3 := Lib.hid (HB2.out.trans (hb.mono HB2.out.size)); clear ho hb)
          | (go_at_call 13; (with_reducible refine (split_any t w3 HZ.out.2).mono ?_); rintro e w4 ⟨a4, n4, c4, rfl, ho, hb⟩; rw [HB.out] at ho; obtain rfl : n4 = m := ho.1.symm.trans HNM.out.2.1; have HO4 := Lib.hid ho; have HP4 := Lib.hid (HO3.out.below hb); have HB4 := Lib.hid (HB3.out.trans (hb.mono HB3.out.size)); clear ho hb)
          | (refine wl_maxH rfl _ _ _ rfl (n3 : Int) (n4 : Int) (mx : Int) rfl rfl HMX.out ?_)
          | (go_at_call 20; go_must (refine (hunks_any a3 a4 n3 c3 n4 c4 A B w4 HP4.out HO4.out HLA.out HLB.out HL.out.1 HL.out.2).mono ?_); rintro e w5 ⟨a5, c5, base, V, rfl, hv, hh, hbs, hb⟩; have HV := Lib.hid hv; have HH := Lib.hid hh; have HBS := Lib.hid hbs; have HB5 := Lib.hid (HB4.out.trans (hb.mono HB4.out.size)); clear hv hh hbs hb))
        go_ret2
        exact ⟨a5, c5, base, V, rfl, HV.out, HH.out, Nat.le_trans HB4.out.size HBS.out, HB5.out⟩
#print axioms top_any
end Go.Proofs.YtfoalaoanpbmeaaDoor

namespace Go.Proofs.YtfoalaoanpbmeaaDoor
open Go.RowKit Go.Maps

abbrev FileT : TypeId := 38
def flD (b : List UInt8 × List UInt8) : DataW Unit := .agg [.lit (.string b.1), .lit (.string b.2)]
def flC (b : List UInt8 × List UInt8) : Array Value := #[.string (strB b.1), .string (strB b.2)]
def flElem (v : Value) : Option (DataW Unit × List MemPlace) := match v with
  | .agg cs => match cs.toList with
    | [.string p, .string q] => some (.agg [.lit (.string p.data.toList), .lit (.string q.data.toList)], [])
    | _ => none
  | _ => none
theorem flElem_mk (b : List UInt8 × List UInt8) : flElem (.agg (flC b)) = some (flD b, []) := by
  show some (DataW.agg [.lit (.string (strB b.1).data.toList), .lit (.string (strB b.2).data.toList)], []) = _
  rw [strB_list, strB_list]; rfl
theorem flElem_inv {v : Value} {b : List UInt8 × List UInt8} {ps : List MemPlace} (h : flElem v = some (flD b, ps)) : v = .agg (flC b) := by
  unfold flElem at h
  split at h
  · rename_i cs
    split at h
    · rename_i p q hcs
      simp only [flD, Option.some.injEq, Prod.mk.injEq, DataW.agg.injEq, List.cons.injEq, DataW.lit.injEq, Lit.string.injEq, and_true] at h
      obtain ⟨⟨h1, h2⟩, _⟩ := h
      have e1 : strB b.1 = p := by rw [← h1]; exact strB_of p
      have e2 : strB b.2 = q := by rw [← h2]; exact strB_of q
      unfold flC
      rw [e1, e2]
      congr 1
      exact Array.toList_inj.1 hcs
    · cases h
  · cases h
theorem zeroFl (w : World) : (zeroValue FileT).run Tryd.prog w = .ok (.agg (flC ([], []))) w := by kernel_rfl
/-- The first files of each path, in their order; what a path's is. -/
def seeP (h : List FileL) (x : FileL) : List FileL := if x.1 ∈ h.map (·.1) then h else h ++ [x]
def byF (l : List FileL) : List FileL := l.foldl seeP []
def lookP (h : List FileL) (p : List UInt8) : Option FileL := h.find? (fun f => f.1 == p)
theorem byF_snoc (l : List FileL) (x : FileL) : byF (l ++ [x]) = seeP (byF l) x := by unfold byF; rw [List.foldl_append]; rfl
theorem seeP_len (h : List FileL) (x : FileL) : (seeP h x).length ≤ h.length + 1 := by unfold seeP; split <;> simp
theorem byF_len : ∀ (l : List FileL), (byF l).length ≤ l.length := fun l => by
  have : ∀ (l h : List FileL), (l.foldl seeP h).length ≤ h.length + l.length := by
    intro l
    induction l with
    | nil => intro h; simp
    | cons x l ih => intro h; have h1 := ih (seeP h x); have h2 := seeP_len h x; simp only [List.foldl_cons, List.length_cons]; omega
  have h := this l []
  rw [List.length_nil, Nat.zero_add] at h
  exact h
theorem lookP_some {h : List FileL} {p : List UInt8} : (lookP h p).isSome = decide (p ∈ h.map (·.1)) := by
  unfold lookP
  rw [Bool.eq_iff_iff, List.find?_isSome, decide_eq_true_iff, List.mem_map]
  constructor
  · rintro ⟨x, h1, h2⟩; exact ⟨x, h1, by simpa using h2⟩
  · rintro ⟨x, h1, h2⟩; exact ⟨x, h1, by simpa using h2⟩
theorem lookP_snoc {h : List FileL} {x : FileL} (hx : x.1 ∉ h.map (·.1)) (p : List UInt8) : lookP (h ++ [x]) p = if p = x.1 then some x else lookP h p := by
  unfold lookP
  rw [List.find?_append]
  by_cases hp : p = x.1
  · rw [if_pos hp]
    have h1 : h.find? (fun f => f.1 == p) = none := by
      rw [List.find?_eq_none]
      intro y hy hyp
      exact hx (List.mem_map.2 ⟨y, hy, by rw [← hp]; simpa using hyp⟩)
    rw [h1]
    simp [hp]
  · rw [if_neg hp]
    have : ([x].find? fun f => f.1 == p) = none := by
      rw [List.find?_eq_none]
      intro y hy hyp
      rw [List.mem_singleton.1 hy] at hyp
      exact hp (beq_iff_eq.1 hyp).symm
    rw [this]; simp
/-- Block kb is the map of these files. -/
def ByAt (w : World) (kb : Nat) (h : List FileL) : Prop :=
  ∃ D, w.ownsMap Tryd.prog 9 flElem kb h.length D ∧ Maps.size D = h.length ∧ (∀ p ∈ h, p.1.length ≤ 4000000000) ∧ ∀ s : List UInt8, Maps.has D (.string s) = (lookP h s).isSome ∧ D.atKey (.string s) (flD ([], [])) = flD ((lookP h s).getD ([], []))
section
variable {w w' : World} {kb : Nat} {h : List FileL}
theorem ByAt.lt (H : ByAt w kb h) : kb < w.heap.size := by obtain ⟨D, h1, _⟩ := H; exact h1.lt
theorem ByAt.kept {row : Option Nat} (H : ByAt w kb h) (hg : w.grownBy w' row) (hne : some kb ≠ row) : ByAt w' kb h := by
  obtain ⟨D, h1, h2⟩ := H
  exact ⟨D, h1.kept hg hne, h2⟩
theorem ByAt.below (H : ByAt w kb h) (hb : Below w.heap.size w w') : ByAt w' kb h := H.kept (row := none) ⟨hb.os, hb.tape, hb.output, hb.size, fun k hk _ => hb.block k hk⟩ (by simp)
theorem ByAt.nocell (H : ByAt w kb h) (j : Nat) : w.cell? ⟨kb, j, none⟩ = none := by
  obtain ⟨D, ⟨es, cl, hb, _⟩, _⟩ := H
  unfold World.cell?
  simp [hb]
theorem byAt_new (w : World) : ByAt (w.alloc (.map #[] 0)) w.heap.size [] :=
  ⟨.map [], World.ownsMap_made _ _ _ _, rfl, (fun p hp => by cases hp), fun s => ⟨rfl, rfl⟩⟩
theorem exec_lookB (H : ByAt w kb h) {o : Oper} {a : Act} (mo x : Operand) (ho : o.op = .lookup 57 mo x true) (hm : a.eval mo = .map (some kb)) (s : List UInt8) (hs : s.length ≤ 4000000000) (hx : a.eval x = .string (strB s)) (q : Bool) (hq : (lookP h s).isSome = q) (p2 q2 : List UInt8) (hf : (lookP h s).getD ([], []) = (p2, q2)) :
    (execOp a.eval o).run Tryd.prog w = .ok (.value (.tuple #[.agg #[.string (strB p2), .string (strB q2)], .bool q])) w := by
  obtain ⟨D, h1, _, _, h2⟩ := H
  obtain ⟨h3, h4⟩ := h2 s
  obtain ⟨v, ps, hrun, hv⟩ := h1.look_ok (t := 57) (e := FileT) keyedS Tryd.underlying57 (zeroFl w) (zd := flD ([], [])) (zp := []) (flElem_mk ([], [])) (keySt hs)
  rw [h3, hq] at hrun
  rw [h4, hf] at hv
  obtain rfl := flElem_inv hv
  unfold execOp
  simp only [ho, hm, hx]
  simp only [Sem.run_bind, hrun, Result.andThen_ok, Sem.run_pure]
  rfl
set_option maxRecDepth 100000 in
theorem wl_byPut (H : ByAt w kb h) {ops : Array Oper} {rest : List Oper} {o : Oper} {a : Act} {Q : Exit → Act → World → Prop} (hgd : o.guard = none) (hk : h.length ≤ 1000000) (mo x y : Operand) (ho : o.op = .mapUpdate 57 mo x y) (hm : a.eval mo = .map (some kb)) (f : FileL) (hs : f.1.length ≤ 4000000000) (hx : a.eval x = .string (strB f.1)) (hno : f.1 ∉ h.map (·.1)) (hy : a.eval y = .agg (flC f))
    (hK : ∀ w', ByAt w' kb (h ++ [f]) → w.grownBy w' (some kb) → wpList Tryd.prog ops Q rest (a.put o.dst undef) w') : wpList Tryd.prog ops Q (o :: rest) a w := by
  obtain ⟨D, h1, hsz, hsm, h2⟩ := H
  obtain ⟨w', hrun, r1, r2⟩ := World.ownsMap.store (t := 57) (e := FileT) h1 keyedS Tryd.underlying57 (by unfold maxLen; omega) (keySt hs) (val := .agg (flC f)) (d := flD f) (ps := []) (flElem_mk f)
  refine wpList_plain hgd fun K hK' => ?_
  unfold Oper.wp
  simp [execOp, ho, hm, hx, hy, hrun, Result.andThen]
  refine hK' _ _ (hK w' ⟨_, by rw [List.length_append]; exact r1, ?_, fun p hp => ?_, fun z => ?_⟩ r2.grown)
  · rw [Maps.size_put (h1.tidy keyedS), (h2 f.1).1, List.length_append, hsz, lookP_some]
    simp [hno]
  · rcases List.mem_append.1 hp with hp | hp
    · exact hsm p hp
    · rw [List.mem_singleton.1 hp]; exact hs
  · rw [lookP_snoc hno]
    by_cases he : z = f.1
    · subst he
      rw [if_pos rfl]
      exact ⟨by rw [Maps.has_put_same h1.isMap (keyedS.key (keySt hs))]; rfl, by rw [Maps.atKey_put_same h1.isMap (keyedS.key (keySt hs))]; rfl⟩
    · have hne : (Lit.string z) ≠ Lit.string f.1 := fun e => he (by injection e)
      obtain ⟨h3, h4⟩ := h2 z
      rw [if_neg he]
      exact ⟨by rw [Maps.has_put_other hne, h3], by rw [Maps.atKey_put_other hne, h4]⟩
end
/-- A map of files, told. -/
def ByIs (L : List FileL) (w : World) (e : Ending) (w' : World) : Prop := ∃ kb, e = .returned (.map (some kb)) ∧ ByAt w' kb (byF L) ∧ w.heap.size ≤ kb ∧ Below w.heap.size w w'
theorem below_low {w w1 w2 : World} {b : Nat} (h : Below b w w1) {row : Option Nat} (hg : w1.grownBy w2 row) (hr : ∀ k, row = some k → b ≤ k) (hs : b ≤ w1.heap.size) : Below b w w2 := h.grown hg hs hr
set_option maxRecDepth 100000 in
set_option maxHeartbeats 2000000 in
theorem byPath_any (a : Option Addr) (n c : Nat) (L : List FileL) (w : World) (hL : FilesAt w a n c L) (hl : ∀ f ∈ L, f.1.length ≤ 4000000000) (hn : n ≤ 5000) :
    Calls Tryd.prog 25 #[.slice a n c] w (ByIs L w) := by
  have hmm := @run_makeMap Tryd.prog
  have HL := Lib.hid hL
  have HLL := Lib.hid hl
  have HN : Hid (n ≤ 5000 ∧ L.length = n) := Lib.hid ⟨hn, hL.1⟩
  obtain ⟨g, hg⟩ : ∃ g, w.heap.size = g := ⟨_, rfl⟩
  obtain ⟨w1, hw1⟩ : ∃ W, w.alloc (.map #[] 0) = W := ⟨_, rfl⟩
  have HM1 : Hid (ByAt w1 g []) := Lib.hid (hw1 ▸ hg ▸ byAt_new w)
  have HB1 : Hid (Below w.heap.size w w1) := Lib.hid (hw1 ▸ (Below.refl _ _).alloc (Nat.le_refl _) _)
  have HG := Lib.hid hg
  clear hL hl hn
  go_enter Tryd.func25, Tryd.ntmps25
  go_wp2
  clear hw1
  go_loopg [11] n (fun gk v11 W => ∃ i : Nat, v11 = .int .i64 (i : Nat) ∧ Hid (gk + i = n) ∧ Hid (ByAt W g (byF (L.take i))) ∧ Hid (Below w.heap.size w W))
  case atStart => exact ⟨0, rfl, Lib.hid rfl, HM1, HB1⟩
  case round =>
    obtain ⟨i, rfl, HI, HM, HB⟩ := hrel
    by_cases hi : (i : Int) < (n : Int)
    · have hn := HN.out
      obtain ⟨⟨p, q⟩, hf⟩ : ∃ f, L.getD i ([], []) = f := ⟨_, rfl⟩
      obtain ⟨b, off, rfl, hc0, hc1⟩ : ∃ b off, a = some ⟨b, off, none⟩ ∧ wr.cell? ⟨b, off + i * 2, none⟩ = some (.string (strB p)) ∧ wr.cell? ⟨b, off + i * 2 + 1, none⟩ = some (.string (strB q)) := by
        obtain ⟨_, _, _, h4⟩ := HL.out
        rcases h4 with ⟨h0, _⟩ | ⟨b, off, ha, hc⟩
        · omega
        · obtain ⟨c1, c2⟩ := hc i (by omega)
          rw [show (default : FileL) = ([], []) from rfl, hf] at c1 c2
          exact ⟨b, off, ha, (HB.out.cell (World.block_lt_of_cell? _ _ c1)).trans c1, (HB.out.cell (World.block_lt_of_cell? _ _ c2)).trans c2⟩
      have HPL : Hid (p.length ≤ 4000000000) := Lib.hid (by
        have h1 := HLL.out (L.getD i ([], [])) (by rw [List.getD_eq_getElem?_getD, List.getElem?_eq_getElem (by omega)]; exact List.getElem_mem _)
        rw [hf] at h1; exact h1)
      obtain ⟨h, hh⟩ : ∃ h, byF (L.take i) = h := ⟨_, rfl⟩
      have HSN : Hid (byF (L.take (i + 1)) = seeP h (p, q)) := Lib.hid (by rw [take_snoc L i ([], []) (by omega), byF_snoc, hf, hh])
      have HHL : Hid (h.length ≤ 5000) := Lib.hid (by have h1 := byF_len (L.take i); rw [hh, List.length_take] at h1; omega)
      rw [hh] at HM
      have HIN : Hid (i < n) := Lib.hid (by omega)
      have hi0 : (0 : Int) ≤ (i : Int) := by omega
      have W1 : IntKind.i64.wrap ((i : Int) + 1) = (i : Int) + 1 := IntWalk.i64_in _ (by omega)
      have HAL : Hid (∀ (W : World) o, Below W.heap.size W (W.alloc o)) := Lib.hid (fun W o => (Below.refl _ _).alloc (Nat.le_refl _) o)
      obtain ⟨⟨p2, q2⟩, hf2⟩ : ∃ f, (lookP h p).getD ([], []) = f := ⟨_, rfl⟩
      have HF2 := Lib.hid hf2
      clear hf hh hn hf2
      by_cases hin : p ∈ h.map (·.1)
      · have HQ : Hid ((lookP h p).isSome = true) := Lib.hid (by rw [lookP_some]; exact decide_eq_true hin)
        have HSE : Hid (seeP h (p, q) = h) := Lib.hid (by unfold seeP; rw [if_pos hin])
        clear hin
        go_wp2_with ((with_reducible show wpList _ _ _ (⟨some 19, _, _, _, _, _⟩ :: _) _ _); go_must (refine wl_exN rfl (exec_lookB (HM.out.below (HAL.out _ _)) _ _ rfl rfl p HPL.out rfl true HQ.out p2 q2 HF2.out) ?_))
        go_roundg (gk - 1)
        case measure => have h1 := HI.out; have h2 := HIN.out; omega
        case rel => exact ⟨i + 1, by go_num, Lib.hid (by have h1 := HI.out; have h2 := HIN.out; omega), Lib.hid (by rw [HSN.out, HSE.out]; exact (HM.out.below (HAL.out _ _)).below (HAL.out _ _)), Lib.hid ((HB.out.alloc HB.out.size _).alloc (by have := HB.out.size; simp; omega) _)⟩
      · have HQ : Hid ((lookP h p).isSome = false) := Lib.hid (by rw [lookP_some]; exact decide_eq_false hin)
        have HSE : Hid (seeP h (p, q) = h ++ [(p, q)]) := Lib.hid (by unfold seeP; rw [if_neg hin])
        have HNI := Lib.hid hin
        clear hin
        go_wp2_with (first
          | ((with_reducible show wpList _ _ _ (⟨some 19, _, _, _, _, _⟩ :: _) _ _); go_must (refine wl_exN rfl (exec_lookB (HM.out.below (HAL.out _ _)) _ _ rfl rfl p HPL.out rfl false HQ.out p2 q2 HF2.out) ?_))
          | ((with_reducible show wpList _ _ _ (⟨_, Op.mapUpdate _ _ _ _, _, _, _, _⟩ :: _) _ _); go_must (refine wl_byPut ((HM.out.below (HAL.out _ _)).below (HAL.out _ _)) rfl (by have := HHL.out; omega) _ _ _ rfl rfl (p, q) HPL.out rfl HNI.out rfl ?_); intro w5 hm5 hg5; have HM5 := Lib.hid hm5; have HB5 := Lib.hid (((HB.out.alloc HB.out.size _).alloc (by have := HB.out.size; simp; omega) _).grown hg5 (by have := HB.out.size; simp; omega) (fun k e => by have h1 := HG.out; have h2 := Option.some.inj e; omega)); clear hm5 hg5))
        go_roundg (gk - 1)
        case measure => have h1 := HI.out; have h2 := HIN.out; omega
        case rel => exact ⟨i + 1, by go_num, Lib.hid (by have h1 := HI.out; have h2 := HIN.out; omega), Lib.hid (by rw [HSN.out, HSE.out]; exact HM5.out), HB5⟩
    · have hin : i = n := by have := HI.out; omega
      subst hin
      go_wp2
      go_ret
      have e : L.take i = L := List.take_of_length_le (by have := HN.out; omega)
      rw [e] at HM
      exact ⟨g, rfl, HM.out, by have := HG.out; omega, HB.out⟩
#print axioms byPath_any
end Go.Proofs.YtfoalaoanpbmeaaDoor
