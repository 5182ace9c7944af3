/-
  Merged: RfTable, RfModel.
-/
import Derived.Test.YthihmlojdopmfaaDoorRfClone
import Derived.Test.YthihmlojdopmfaaDoorGrp1
import Derived.Maps.OwnSet
namespace Go.Proofs.YthihmlojdopmfaaDoor
open Go.RowKit
open Go.Maps (Keyed)

abbrev K8 : TypeId := 5
abbrev ActM : TypeId := 100
abbrev ActT : TypeId := 103
theorem lawU8 : Keyed Tryd.prog K8 := Maps.int_keyed Tryd.underlying5
def actR : Value → Option (DataW Unit × List MemPlace)
 | .func (.func f) a b => if a.size = 0 ∧ b.size = 0 then some (.lit (.int .i64 f), []) else some (.nil, [])
 | _ => some (.nil, [])
theorem actR_inv {v : Value} {n : Int} {ps : List MemPlace} (h : actR v = some (.lit (.int .i64 n), ps)) : ∃ f : Nat, (f : Int) = n ∧ v = .func (.func f) #[] #[] := by
 unfold actR at h
 split at h
 ·split at h
  ·rename_i f a b hc
   obtain ⟨ha, hb⟩ := hc
   simp only [Option.some.injEq, Prod.mk.injEq, DataW.lit.injEq, Lit.int.injEq, true_and] at h
   exact ⟨f, h.1, by rw [Array.eq_empty_of_size_eq_zero ha, Array.eq_empty_of_size_eq_zero hb]⟩
  ·simp at h
 ·simp at h
noncomputable def actD0 : DataW Unit := .map []
noncomputable def actD1 : DataW Unit := actD0.put (.int .u8 1) (.lit (.int .i64 74))
noncomputable def actD2 : DataW Unit := actD1.put (.int .u8 2) (.lit (.int .i64 75))
noncomputable def actD3 : DataW Unit := actD2.put (.int .u8 3) (.lit (.int .i64 76))
theorem actD3_is : actD3 = .map [(.int .u8 1, .lit (.int .i64 74)), (.int .u8 2, .lit (.int .i64 75)), (.int .u8 3, .lit (.int .i64 76))] := by kernel_rfl
def ActsAt (w : World) (b : Nat) : Prop := w.ownsMap Tryd.prog K8 actR b 3 actD3
theorem ActsAt.below {w w' : World} {b : Nat} (h : ActsAt w b) (hb : Below w.heap.size w w') : ActsAt w' b := by
 obtain ⟨es, clock, he, F⟩ := h
 refine ⟨es, clock, ?_, F⟩
 rw [hb.block b ((Array.getElem?_eq_some_iff.1 he).1)]; exact he
theorem zeroAct (w : World) : (zeroValue ActT).run Tryd.prog w = .ok .nilFunc w := by kernel_rfl
theorem u8wf {k : Nat} (hk : k < 256) : (Lit.int .u8 (k : Int)).wf = true := by
 have h1 : IntKind.u8.min = 0 := rfl
 have h2 : IntKind.u8.max = 255 := rfl
 simp only [Lit.wf, Bool.and_eq_true, decide_eq_true_eq]
 omega
theorem look_act {w : World} {b : Nat} (h : ActsAt w b) (k : Nat) (hk : k < 256) : ∃ v, (Instr.lookup ActM (.map (some b)) (.int .u8 (k : Int)) true).run Tryd.prog w = .ok (.tuple #[v, .bool (decide (k = 1 ∨ k = 2 ∨ k = 3))]) w ∧
  (k = 1 → v = .func (.func 74) #[] #[]) ∧ (k = 2 → v = .func (.func 75) #[] #[]) ∧ (k = 3 → v = .func (.func 76) #[] #[]) := by
 have hw : (Lit.int .u8 (k : Int)).wf = true := u8wf hk
 obtain ⟨v, ps, hrun, hv⟩ := World.ownsMap.look_ok (t := ActM) (e := ActT) h lawU8 Tryd.underlying100 (zeroAct w) (zd := .nil) (zp := []) rfl (Maps.keyOf_int_mk Tryd.underlying5 hw)
 have hhas : Maps.has actD3 (.int .u8 (k : Int)) = decide (k = 1 ∨ k = 2 ∨ k = 3) := by
  rw [actD3_is]
  simp only [Maps.has, List.any_cons, List.any_nil, Lit.sameKey, true_and, Bool.or_false]
  rw [Bool.eq_iff_iff]
  simp only [Bool.or_eq_true, decide_eq_true_eq]
  omega
 rw [hhas] at hrun
 refine ⟨v, hrun, ?_, ?_, ?_⟩
 all_goals
  rintro rfl
  rw [actD3_is] at hv
  have hv2 : actR v = some (.lit (.int .i64 _), ps) := hv
  obtain ⟨f, hf, rfl⟩ := actR_inv hv2
  obtain rfl := Int.ofNat.inj hf
  rfl
theorem wl_insert {w : World} {ops : Array Oper} {rest : List Oper} {o : Oper} {a : Act} {Q : Exit → Act → World → Prop} (hg : o.guard = none) (m x v : Operand) (hop : o.op = Op.insert ActM m x v) (b n : Nat) (D : DataW Unit)
  (hm : a.eval m = .map (some b)) (hown : w.ownsMap Tryd.prog K8 actR b n D) (hn : n < 10) (k : Nat) (hk : k < 256) (hx : a.eval x = .int .u8 (k : Int)) (f : Nat) (hv : a.eval v = .func (.func f) #[] #[])
  (hK : ∀ w', w'.ownsMap Tryd.prog K8 actR b (n + 1) (D.put (.int .u8 (k : Int)) (.lit (.int .i64 f))) → w.grownBy w' (some b) → wpList Tryd.prog ops Q rest (a.put o.dst undef) w') : wpList Tryd.prog ops Q (o :: rest) a w := by
 refine wpList_plain hg fun K' hK' => ?_
 obtain ⟨w', hrun, r1, r2⟩ := World.ownsMap.store (t := ActM) (e := ActT) hown lawU8 Tryd.underlying100 (by unfold maxLen; omega) (Maps.keyOf_int_mk Tryd.underlying5 (a := (k : Int)) (u8wf hk)) (val := .func (.func f) #[] #[]) (d := .lit (.int .i64 f)) (ps := []) (by simp [actR])
 unfold Oper.wp
 simp [execOp, hop, hm, hx, hv, hrun, Result.andThen]
 exact hK' _ _ (hK w' r1 r2.grown)

set_option maxRecDepth 100000 in
set_option maxHeartbeats 1000000 in
theorem acts_any (w : World) : Calls Tryd.prog 53 #[] w fun e w' => e = .returned (.map (some w.heap.size)) ∧ ActsAt w' w.heap.size ∧ Below w.heap.size w w' := by
 have HK0 := Lib.hid (World.ownsMap_made w Tryd.prog K8 actR)
 have HB0 := Lib.hid ((Below.refl w.heap.size w).alloc (Nat.le_refl _) (.map #[] 0))
 have hmm := @run_makeMap Tryd.prog
 go_enter Tryd.func53, Tryd.ntmps53
 go_wp2_with (first
  | ((with_reducible show wpList _ _ _ (⟨_, Op.insert _ _ (.const (.int _ 1)) _, _, _, _, _⟩ :: _) _ _); go_must (refine wl_insert rfl _ _ _ rfl w.heap.size 0 _ rfl HK0.out (by decide) 1 (by decide) rfl 74 rfl ?_); intro w1 hk1 hg1; have HK1 := Lib.hid hk1; have HB1 := Lib.hid (HB0.out.grown hg1 HB0.out.size (fun q hq => by cases hq; exact Nat.le_refl _)); clear hk1 hg1)
  | ((with_reducible show wpList _ _ _ (⟨_, Op.insert _ _ (.const (.int _ 2)) _, _, _, _, _⟩ :: _) _ _); go_must (refine wl_insert rfl _ _ _ rfl w.heap.size 1 _ rfl HK1.out (by decide) 2 (by decide) rfl 75 rfl ?_); intro w2 hk2 hg2; have HK2 := Lib.hid hk2; have HB2 := Lib.hid (HB1.out.grown hg2 HB1.out.size (fun q hq => by cases hq; exact Nat.le_refl _)); clear hk2 hg2)
  | ((with_reducible show wpList _ _ _ (⟨_, Op.insert _ _ (.const (.int _ 3)) _, _, _, _, _⟩ :: _) _ _); go_must (refine wl_insert rfl _ _ _ rfl w.heap.size 2 _ rfl HK2.out (by decide) 3 (by decide) rfl 76 rfl ?_); intro w3 hk3 hg3; have HK3 := Lib.hid hk3; have HB3 := Lib.hid (HB2.out.grown hg3 HB2.out.size (fun q hq => by cases hq; exact Nat.le_refl _)); clear hk3 hg3))
 go_ret
 exact ⟨rfl, HK3.out, HB3.out⟩
end Go.Proofs.YthihmlojdopmfaaDoor

namespace Go.Proofs.YthihmlojdopmfaaDoor
open Go.RowKit

abbrev Sorted (L : List RName) : Prop := L.Pairwise fun a b => a.1 < b.1
theorem gd_get {L : List RName} {i : Nat} (h : i < L.length) : gd L i = L[i] := by unfold gd; simp [h]
theorem asc_sorted {L : List RName} : Asc L ↔ Sorted L := by
 rw [Sorted, List.pairwise_iff_getElem]
 constructor
 ·intro h i j hi hj hij
  have := h i j hij hj
  rwa [gd_get hi, gd_get hj] at this
 ·intro h i j hij hj
  have := h i j (by omega) hj hij
  rwa [gd_get (by omega), gd_get hj]
theorem rightN_iff {L : List RName} : RightN L ↔ L.length ≤ 64 ∧ (∀ x ∈ L, nameF x.1 = true ∧ x.2 ≠ idZero) ∧ Sorted L := by
 unfold RightN
 constructor
 ·rintro ⟨h1, h2, h3⟩; exact ⟨h1, h2, asc_sorted.1 (asc_of h3)⟩
 ·rintro ⟨h1, h2, h3⟩; exact ⟨h1, h2, fun j hj => asc_sorted.2 h3 j (j + 1) (by omega) hj⟩
theorem RightN.asc {L : List RName} (h : RightN L) : Asc L := asc_of h.2.2
theorem set_sorted {L : List RName} {k : Nat} {i : List UInt8} (hk : k < L.length) (h : Sorted L) : Sorted (L.set k ((gd L k).1, i)) := by
 have e : (L.set k ((gd L k).1, i)).map (·.1) = L.map (·.1) := by
  rw [List.map_set, gd_get hk]
  apply List.ext_getElem?
  intro j
  by_cases hj : k = j
  ·subst hj; simp [hk]
  ·simp [hj]
 have h2 : (L.map (·.1)).Pairwise (· < ·) := List.pairwise_map.2 h
 rw [← e] at h2
 exact List.pairwise_map.1 h2
theorem lt_ne_lt {a b : List UInt8} (h1 : ¬ a < b) (h2 : a ≠ b) : b < a := by
 exact Classical.byContradiction fun h => h2 (List.le_antisymm (List.not_lt.1 h) (List.not_lt.1 h1))
theorem ins_sorted {L : List RName} {s : List UInt8} {i : List UInt8} (h : Sorted L) (ht : thereF L s = false) : Sorted (L.take (findF L s) ++ (s, i) :: L.drop (findF L s)) := by
 have hA := asc_sorted.2 h
 have h0 : Sorted (L.take (findF L s) ++ L.drop (findF L s)) := by rw [List.take_append_drop]; exact h
 have h1 := List.pairwise_append.1 h0
 refine List.pairwise_append.2 ⟨h1.1, List.pairwise_cons.2 ⟨fun x hx => ?_, h1.2.1⟩, fun x hx y hy => ?_⟩
 ·obtain ⟨j, hj, rfl⟩ := List.mem_iff_getElem.1 hx
  rw [List.length_drop] at hj
  rw [List.getElem_drop]
  have hl : findF L s + j < L.length := by omega
  have hn : ¬ (gd L (findF L s + j)).1 < s := fun h => by have := (findF_iff hA s hl).1 h; omega
  rw [gd_get hl] at hn
  refine lt_ne_lt hn (fun e => ?_)
  rcases Nat.eq_zero_or_pos j with rfl | hj0
  ·unfold thereF at ht
   rw [decide_eq_true (by omega : findF L s < L.length), Bool.true_and, decide_eq_false_iff_not, gd_get (by omega)] at ht
   exact ht e
  ·have h2 := hA (findF L s) (findF L s + j) (by omega) hl
   rw [gd_get hl, e] at h2
   have := (findF_iff hA s (j := findF L s) (by omega)).1 h2
   omega
 ·have hx2 : x.1 < s := by
   obtain ⟨j, hj, rfl⟩ := List.mem_iff_getElem.1 hx
   rw [List.length_take] at hj
   have := (findF_iff hA s (j := j) (by omega)).2 (by omega)
   rw [gd_get (by omega)] at this
   rwa [List.getElem_take]
  rcases List.mem_cons.1 hy with rfl | hy
  ·exact hx2
  ·exact h1.2.2 x hx y hy
theorem moveF_right {L : List RName} {u : UpdV} (h : RightN L) (h0 : (moveF L u).2 = 0) : RightN (moveF L u).1 := by
 obtain ⟨h1, h2, h3⟩ := rightN_iff.1 h
 refine rightN_iff.2 ?_
 unfold moveF at h0 ⊢
 by_cases hn : nameF u.name = false
 ·rw [if_pos hn] at h0; cases h0
 rw [if_neg hn] at h0 ⊢
 have hn : nameF u.name = true := by simpa using hn
 by_cases ho : (if thereF L u.name then (gd L (findF L u.name)).2 else idZero) ≠ u.old
 ·rw [if_pos ho] at h0; cases h0
 rw [if_neg ho] at h0 ⊢
 by_cases ht : thereF L u.name = true
 ·rw [if_pos ht] at h0 ⊢
  have hk : findF L u.name < L.length := by
   unfold thereF at ht
   rw [Bool.and_eq_true, decide_eq_true_eq] at ht
   exact ht.1
  by_cases hz : u.new = idZero
  ·rw [if_pos hz]
   exact ⟨Nat.le_trans (List.length_eraseIdx_le ..) h1, fun x hx => h2 x (List.mem_of_mem_eraseIdx hx), List.Pairwise.sublist (List.eraseIdx_sublist ..) h3⟩
  ·rw [if_neg hz]
   refine ⟨by simpa using h1, fun x hx => ?_, set_sorted hk h3⟩
   rcases List.mem_or_eq_of_mem_set hx with hx | rfl
   ·exact h2 x hx
   ·exact ⟨by have := (h2 _ (List.getElem_mem hk)).1; rwa [gd_get hk], hz⟩
 ·rw [if_neg ht] at h0 ⊢
  by_cases hz : u.new = idZero
  ·rw [if_pos hz]; exact ⟨h1, h2, h3⟩
  ·rw [if_neg hz] at h0 ⊢
   by_cases h64 : L.length = 64
   ·rw [if_pos h64] at h0; cases h0
   ·rw [if_neg h64]
    refine ⟨?_, fun x hx => ?_, ins_sorted h3 (by simpa using ht)⟩
    ·simp only [List.length_append, List.length_take, List.length_cons, List.length_drop]
     have := findF_le L u.name
     omega
    ·rcases List.mem_append.1 hx with hx | hx
     ·exact h2 x (List.mem_of_mem_take hx)
     ·rcases List.mem_cons.1 hx with rfl | hx
      ·exact ⟨hn, hz⟩
      ·exact h2 x (List.mem_of_mem_drop hx)
theorem moveF_name {L : List RName} {u : UpdV} (h0 : (moveF L u).2 = 0) : nameF u.name = true := by
 revert h0
 unfold moveF
 split
 ·intro h0; cases h0
 ·rename_i hn
  intro _
  simpa using hn
theorem name_len {s : List UInt8} (h : nameF s = true) : s.length ≤ 32 := by
 unfold nameF at h
 simp only [Bool.and_eq_true, decide_eq_true_eq] at h
 omega
def oneR (r : RefsV) (u : UpdV) : RefsV × Nat := if u.kind = 1 then branchF r u else if u.kind = 2 then tagF r u else if u.kind = 3 then headUF r u else (r, 1)
def applyF (n : List UInt8) : RefsV → List UpdV → RefsV × Nat
 | r, [] => (r, 0)
 | r, u :: us => if (oneR r u).2 = 0 then applyF n (logF (oneR r u).1 ⟨u, n⟩) us else (noRefs, (oneR r u).2)
theorem oneR_right {r : RefsV} {u : UpdV} (h : RightV r) (h0 : (oneR r u).2 = 0) : RightV (oneR r u).1 ∧ (oneR r u).1.log = r.log ∧ 1 ≤ u.kind ∧ u.kind ≤ 3 ∧ u.name.length ≤ 32 := by
 obtain ⟨h1, h2, h3, h4⟩ := h
 revert h0
 unfold oneR
 split
 ·rename_i hk
  unfold branchF
  split
  ·intro h0; cases h0
  ·intro h0
   exact ⟨⟨moveF_right h1 h0, h2, h3, h4⟩, rfl, by omega, by omega, name_len (moveF_name h0)⟩
 split
 ·rename_i hk
  unfold tagF
  split
  ·intro h0; cases h0
  ·intro h0
   exact ⟨⟨h1, moveF_right h2 h0, h3, h4⟩, rfl, by omega, by omega, name_len (moveF_name h0)⟩
 split
 ·rename_i hk
  unfold headUF
  split
  ·intro h0; cases h0
  rename_i ha
  split
  ·intro h0; cases h0
  rename_i hb
  intro _
  have hx : ¬ (u.new = idZero ↔ u.name = []) := fun h => ha (.inr h)
  have hf : headF u.name u.new = true := by
   unfold headF
   by_cases hn : u.name = []
   ·rw [if_pos hn]
    have : ¬ u.new = idZero := fun h => hx ⟨fun _ => hn, fun _ => h⟩
    rw [decide_eq_false this]; rfl
   ·rw [if_neg hn]
    have h1 : nameF u.name = true := by
     by_cases h : nameF u.name = false
     ·exact absurd ⟨hn, h⟩ hb
     ·simpa using h
    have h2 : u.new = idZero := by
     by_cases h : u.new = idZero
     ·exact h
     ·exact absurd ⟨fun h' => absurd h' h, fun h' => absurd h' hn⟩ hx
    rw [h1, decide_eq_true h2]; rfl
  refine ⟨⟨h1, h2, hf, h4⟩, rfl, by omega, by omega, ?_⟩
  by_cases hn : u.name = []
  ·rw [hn]; decide
  ·by_cases h : nameF u.name = false
   ·exact absurd ⟨hn, h⟩ hb
   ·exact name_len (by simpa using h)
 ·intro h0; cases h0
theorem logF_right {r : RefsV} {x : EntV} (h : RightV r) (hx : entF x = true) : RightV (logF r x) := by
 obtain ⟨h1, h2, h3, h4, h5⟩ := h
 refine ⟨h1, h2, h3, ?_, fun e he => ?_⟩
 ·show ((if r.log.length = 64 then r.log.eraseIdx 0 else r.log) ++ [x]).length ≤ 64
  split
  ·rename_i hl; rw [List.length_append, erase_len hl]; exact Nat.le_refl 64
  ·rw [List.length_append, List.length_singleton]; omega
 ·rcases List.mem_append.1 he with he | he
  ·split at he
   ·exact h5 e (List.mem_of_mem_eraseIdx he)
   ·exact h5 e he
  ·rw [List.mem_singleton.1 he]; exact hx
theorem step_right {r : RefsV} {u : UpdV} {n : List UInt8} (h : RightV r) (hn : noteF n = true) (h0 : (oneR r u).2 = 0) : RightV (logF (oneR r u).1 ⟨u, n⟩) := by
 obtain ⟨h1, _, h3, h4, h5⟩ := oneR_right h h0
 refine logF_right h1 ?_
 unfold entF
 rw [decide_eq_true h3, decide_eq_true h4, decide_eq_true h5, hn]; rfl
theorem applyF_right {n : List UInt8} (hn : noteF n = true) : ∀ (L : List UpdV) {r : RefsV}, RightV r → (applyF n r L).2 = 0 → RightV (applyF n r L).1
 | [], r, h, _ => h
 | u :: us, r, h, h0 => by
  unfold applyF at h0 ⊢
  split at h0
  ·rename_i h1
   rw [if_pos h1]
   exact applyF_right hn us (step_right h hn h1) h0
  ·rename_i h1
   exact absurd h0 h1
open Classical in
noncomputable def applyAll (r : RefsV) (L : List UpdV) (n : List UInt8) : RefsV × Nat := if RightV r ∧ noteF n = true then applyF n r L else (noRefs, 1)
end Go.Proofs.YthihmlojdopmfaaDoor
