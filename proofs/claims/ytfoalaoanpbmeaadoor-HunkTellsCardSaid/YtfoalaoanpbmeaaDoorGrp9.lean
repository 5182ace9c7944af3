/-
  Merged: TreeMath, Files, HkBy.
-/
import Derived.Test.YtfoalaoanpbmeaaDoorPathMath
import Derived.Test.YtfoalaoanpbmeaaDoorOneG
import Derived.Test.YtfoalaoanpbmeaaDoorHkTop
namespace Go.Proofs.YtfoalaoanpbmeaaDoor

abbrev FileL := List UInt8 × List UInt8
/-- The paths ahead of a file. -/
def aheadF (fs : List FileL) (i : Nat) : List (List UInt8) := (fs.take i).map (·.1)
/-- What is told at a file. -/
def fileE (fs : List FileL) (i : Nat) : Nat :=
  if pathF (fs.getD i default).1 = false then 10 else if bytesF (fs.getD i default).2 ≠ 0 then bytesF (fs.getD i default).2 else if clashesF (fs.getD i default).1 (aheadF fs i) = true then 11 else 0
def treeF (fs : List FileL) : Nat := if 64 < fs.length then 3 else (((List.range fs.length).map (fileE fs)).find? (· != 0)).getD 0

theorem find_at {l : List Nat} {p : Nat → Bool} : ∀ {i : Nat}, (h : i < l.length) → (∀ j, (hj : j < i) → p (l[j]'(by omega)) = false) → p l[i] = true → l.find? p = some l[i] := by
  induction l with
  | nil => intro i h; simp at h
  | cons a l ih =>
    intro i h h1 h2
    cases i with
    | zero => rw [List.find?_cons]; simp at h2 ⊢; rw [h2]
    | succ i =>
      have h0 := h1 0 (by omega)
      simp at h0
      rw [List.find?_cons, h0]
      simp only [List.getElem_cons_succ] at h2 ⊢
      exact ih (by simpa using h) (fun j hj => by have := h1 (j + 1) (by omega); simpa using this) h2
theorem tree_stop {fs : List FileL} {i e : Nat} (h64 : fs.length ≤ 64) (hi : i < fs.length) (hu : ∀ j, j < i → fileE fs j = 0) (he : fileE fs i = e) (h0 : e ≠ 0) : treeF fs = e := by
  unfold treeF
  rw [if_neg (by omega), find_at (i := i) (by simpa using hi) (fun j hj => by simp [hu j hj]) (by simp [he, h0])]
  simp [he]
theorem tree_done {fs : List FileL} (h64 : fs.length ≤ 64) (hu : ∀ j, j < fs.length → fileE fs j = 0) : treeF fs = 0 := by
  unfold treeF
  rw [if_neg (by omega), List.find?_eq_none.2]
  · rfl
  · intro x hx
    obtain ⟨j, hj, rfl⟩ := List.mem_map.1 hx
    simp [hu j (List.mem_range.1 hj)]
theorem tree_full {fs : List FileL} (h : 64 < fs.length) : treeF fs = 3 := by unfold treeF; rw [if_pos h]

theorem fileE_name {fs : List FileL} {i : Nat} (h : pathF (fs.getD i default).1 = false) : fileE fs i = 10 := by unfold fileE; rw [if_pos h]
theorem fileE_bytes {fs : List FileL} {i e : Nat} (h : pathF (fs.getD i default).1 = true) (he : bytesF (fs.getD i default).2 = e) (h0 : e ≠ 0) : fileE fs i = e := by
  unfold fileE; rw [if_neg (by rw [h]; simp), if_pos (by rw [he]; exact h0), he]
theorem fileE_there {fs : List FileL} {i : Nat} (h : pathF (fs.getD i default).1 = true) (he : bytesF (fs.getD i default).2 = 0) (hc : clashesF (fs.getD i default).1 (aheadF fs i) = true) : fileE fs i = 11 := by
  unfold fileE; rw [if_neg (by rw [h]; simp), if_neg (by rw [he]; simp), if_pos hc]
theorem fileE_ok {fs : List FileL} {i : Nat} (h : pathF (fs.getD i default).1 = true) (he : bytesF (fs.getD i default).2 = 0) (hc : clashesF (fs.getD i default).1 (aheadF fs i) = false) : fileE fs i = 0 := by
  unfold fileE; rw [if_neg (by rw [h]; simp), if_neg (by rw [he]; simp), if_neg (by rw [hc]; simp)]

/-- Files that are a tree. -/
def TreeOk (fs : List FileL) : Prop := fs.length ≤ 64 ∧ (∀ i, i < fs.length → pathF (fs.getD i default).1 = true ∧ bytesF (fs.getD i default).2 = 0) ∧ ∀ i j, i < fs.length → j < fs.length → i ≠ j → clashF (fs.getD i default).1 (fs.getD j default).1 = false

theorem ahead_none {fs : List FileL} {i : Nat} (hi : i ≤ fs.length) : clashesF (fs.getD i default).1 (aheadF fs i) = false ↔ ∀ j, j < i → clashF (fs.getD i default).1 (fs.getD j default).1 = false := by
  unfold clashesF aheadF
  rw [List.any_eq_false]
  constructor
  · intro h j hj
    have := h (fs.getD j default).1 (List.mem_map.2 ⟨_, by
      rw [List.getD_eq_getElem?_getD, List.getElem?_eq_getElem (by omega)]
      exact List.mem_take_iff_getElem.2 ⟨j, by omega, rfl⟩, rfl⟩)
    simpa using this
  · intro h x hx
    obtain ⟨y, hy, rfl⟩ := List.mem_map.1 hx
    obtain ⟨j, hj, rfl⟩ := List.mem_take_iff_getElem.1 hy
    have := h j (by omega)
    rw [List.getD_eq_getElem?_getD (i := j), List.getElem?_eq_getElem (by omega)] at this
    simpa using this
theorem fileE_zero {fs : List FileL} {i : Nat} : fileE fs i = 0 ↔ pathF (fs.getD i default).1 = true ∧ bytesF (fs.getD i default).2 = 0 ∧ clashesF (fs.getD i default).1 (aheadF fs i) = false := by
  constructor
  · intro h
    unfold fileE at h
    split at h
    · cases h
    · rename_i h1
      split at h
      · rename_i h2; exact absurd h h2
      · rename_i h2
        split at h
        · cases h
        · rename_i h3
          exact ⟨by simpa using h1, by simpa using h2, by simpa using h3⟩
  · rintro ⟨h1, h2, h3⟩
    exact fileE_ok h1 h2 h3
theorem tree_iff (fs : List FileL) : treeF fs = 0 ↔ TreeOk fs := by
  constructor
  · intro h
    rcases Nat.lt_or_ge 64 fs.length with hl | hl
    · rw [tree_full hl] at h; cases h
    · have hall : ∀ i, i < fs.length → fileE fs i = 0 := by
        intro i
        induction i using Nat.strongRecOn with
        | ind i ih =>
          intro hi
          apply Classical.byContradiction
          intro hne
          exact hne (tree_stop hl hi (fun j hj => ih j hj (by omega)) rfl hne ▸ h)
      refine ⟨hl, fun i hi => ⟨(fileE_zero.1 (hall i hi)).1, (fileE_zero.1 (hall i hi)).2.1⟩, fun i j hi hj hne => ?_⟩
      rcases Nat.lt_or_ge i j with hij | hij
      · rw [clashF_comm]
        exact (ahead_none (by omega)).1 (fileE_zero.1 (hall j hj)).2.2 i hij
      · exact (ahead_none (by omega)).1 (fileE_zero.1 (hall i hi)).2.2 j (by omega)
  · rintro ⟨h1, h2, h3⟩
    refine tree_done h1 fun i hi => fileE_zero.2 ⟨(h2 i hi).1, (h2 i hi).2, (ahead_none (by omega)).2 fun j hj => h3 i j hi (by omega) (by omega)⟩

/-- Files taken from a tree's, each at most once. -/
theorem TreeOk.some {fs gs : List FileL} (h : TreeOk fs) (f : Nat → Nat) (hl : gs.length ≤ fs.length) (hf : ∀ i, i < gs.length → f i < fs.length) (hi : ∀ i j, i < gs.length → j < gs.length → f i = f j → i = j) (he : ∀ i, i < gs.length → gs.getD i default = fs.getD (f i) default) : TreeOk gs := by
  obtain ⟨h1, h2, h3⟩ := h
  refine ⟨by omega, fun i hi' => ?_, fun i j hi' hj' hne => ?_⟩
  · rw [he i hi']; exact h2 _ (hf i hi')
  · rw [he i hi', he j hj']
    exact h3 _ _ (hf i hi') (hf j hj') fun e => hne (hi i j hi' hj' e)
theorem TreeOk.less {fs : List FileL} (h : TreeOk fs) (a : Nat) (ha : a < fs.length) : TreeOk (fs.take a ++ fs.drop (a + 1)) := by
  have hlen : (fs.take a ++ fs.drop (a + 1)).length = fs.length - 1 := by simp; omega
  refine h.some (fun i => if i < a then i else i + 1) (by omega) (fun i hi => by split <;> omega) (fun i j hi hj e => by split at e <;> split at e <;> omega) fun i hi => ?_
  rw [List.getD_eq_getElem?_getD, List.getD_eq_getElem?_getD]
  split
  · rw [List.getElem?_append_left (by simp; omega), List.getElem?_take_of_lt (by omega)]
  · rw [List.getElem?_append_right (by simp; omega), List.getElem?_drop]
    congr 2
    simp; omega
theorem TreeOk.turned {fs : List FileL} (h : TreeOk fs) (a b : Nat) (ha : a < fs.length) (hb : b < fs.length) : TreeOk ((fs.set a (fs.getD b default)).set b (fs.getD a default)) := by
  refine h.some (fun i => if i = b then a else if i = a then b else i) (by simp) (fun i hi => by simp at hi; split; omega; split <;> omega) (fun i j hi hj e => by
    split at e
    · split at e
      · omega
      · split at e <;> omega
    · split at e
      · split at e
        · omega
        · split at e <;> omega
      · split at e
        · omega
        · split at e <;> omega) fun i hi => ?_
  simp at hi
  rw [List.getD_eq_getElem?_getD, List.getElem?_set, List.getElem?_set]
  by_cases h1 : b = i
  · subst h1; rw [if_pos rfl, if_pos (by simpa using hi), if_pos rfl]; rfl
  · rw [if_neg h1, if_neg (Ne.symm h1)]
    by_cases h2 : a = i
    · subst h2; rw [if_pos rfl, if_pos hi, if_pos rfl]; rfl
    · rw [if_neg h2, if_neg (Ne.symm h2), List.getD_eq_getElem?_getD]
end Go.Proofs.YtfoalaoanpbmeaaDoor

namespace Go.Proofs.YtfoalaoanpbmeaaDoor
open Go.RowKit

/-- The cells of files. -/
def fcells (L : List FileL) : List Value := L.flatMap fun f => [St f.1, St f.2]
theorem fcells_length (L : List FileL) : (fcells L).length = L.length * 2 := by
  induction L with
  | nil => rfl
  | cons f L ih => unfold fcells at ih ⊢; rw [List.flatMap_cons, List.length_append, ih]; simp; omega
theorem fcells_append (L M : List FileL) : fcells (L ++ M) = fcells L ++ fcells M := by simp [fcells]
theorem fcells_one (L : List FileL) : ∀ v ∈ fcells L, v.oneCell' = true := by
  intro v hv
  obtain ⟨f, _, h⟩ := List.mem_flatMap.1 hv
  simp at h
  rcases h with rfl | rfl <;> rfl
theorem fcells_at {L : List FileL} : ∀ {j : Nat}, j < L.length → (fcells L)[j * 2]? = some (St (L.getD j default).1) ∧ (fcells L)[j * 2 + 1]? = some (St (L.getD j default).2) := by
  induction L with
  | nil => intro j hj; simp at hj
  | cons f L ih =>
    intro j hj
    have e : fcells (f :: L) = St f.1 :: St f.2 :: fcells L := by simp [fcells]
    cases j with
    | zero => rw [e]; exact ⟨rfl, rfl⟩
    | succ j =>
      have h := ih (j := j) (by simpa using hj)
      rw [e, show (j + 1) * 2 = j * 2 + 1 + 1 from by omega]
      simp only [List.getElem?_cons_succ, List.getD_cons_succ]
      exact h

/-- A slice value reads as these files. -/
def FilesAt (w : World) (a : Option Addr) (n c : Nat) (L : List FileL) : Prop :=
  L.length = n ∧ n ≤ c ∧ c ≤ 9223372036854775807 ∧ ((n = 0 ∧ c = 0) ∨ ∃ b off, a = some ⟨b, off, none⟩ ∧ ∀ j, j < n → w.cell? ⟨b, off + j * 2, none⟩ = some (.string (strB (L.getD j default).1)) ∧ w.cell? ⟨b, off + j * 2 + 1, none⟩ = some (.string (strB (L.getD j default).2)))
section
variable {w w' : World} {a : Option Addr} {n c : Nat} {L : List FileL}
theorem FilesAt.nil : FilesAt w none 0 0 [] := ⟨rfl, Nat.le_refl _, by omega, .inl ⟨rfl, rfl⟩⟩
theorem FilesAt.below (h : FilesAt w a n c L) (hb : Below w.heap.size w w') : FilesAt w' a n c L := by
  obtain ⟨h1, h2, h3, h4⟩ := h
  refine ⟨h1, h2, h3, ?_⟩
  rcases h4 with h4 | ⟨b, off, ha, hc⟩
  · exact .inl h4
  · exact .inr ⟨b, off, ha, fun j hj => ⟨(hb.cell (World.block_lt_of_cell? _ _ (hc j hj).1)).trans (hc j hj).1, (hb.cell (World.block_lt_of_cell? _ _ (hc j hj).2)).trans (hc j hj).2⟩⟩
theorem FilesAt.some_ (h : FilesAt w a n c L) (hn : 0 < n) : ∃ b off, a = some ⟨b, off, none⟩ := by
  rcases h.2.2.2 with ⟨h0, _⟩ | ⟨b, off, ha, _⟩
  · omega
  · exact ⟨b, off, ha⟩
theorem FilesAt.cell {b off : Nat} (h : FilesAt w (some ⟨b, off, none⟩) n c L) (j : Nat) (hj : j < n) : w.cell? ⟨b, off + j * 2, none⟩ = some (.string (strB (L.getD j default).1)) ∧ w.cell? ⟨b, off + j * 2 + 1, none⟩ = some (.string (strB (L.getD j default).2)) := by
  rcases h.2.2.2 with ⟨h0, _⟩ | ⟨b', off', ha, hc⟩
  · omega
  · simp only [Option.some.injEq, Addr.mk.injEq, and_true] at ha
    obtain ⟨rfl, rfl⟩ := ha
    exact hc j hj
end
end Go.Proofs.YtfoalaoanpbmeaaDoor

namespace Go.Proofs.YtfoalaoanpbmeaaDoor
open Go.RowKit Go.Maps

abbrev FileT : TypeId := 38
def flD (b : List UInt8 × List UInt8) : DataW Unit := .agg [.lit (.string b.1), .lit (.string b.2)]
def flC (b : List UInt8 × List UInt8) : Array Value := #[.string (strB b.1), .string (strB b.2)]
def flElem (v : Value) : Option (DataW Unit × List MemPlace) := match v with
  | .agg cs => match cs.toList with
    | [.string p, .string q] => some (.agg [.lit (.string p.data.toList), .lit (.string q.data.toList)], [])
    | _ => none
  | _ => none
theorem flElem_mk (b : List UInt8 × List UInt8) : flElem (.agg (flC b)) = some (flD b, []) := by
  show some (DataW.agg [.lit (.string (strB b.1).data.toList), .lit (.string (strB b.2).data.toList)], []) = _
  rw [strB_list, strB_list]; rfl
theorem flElem_inv {v : Value} {b : List UInt8 × List UInt8} {ps : List MemPlace} (h : flElem v = some (flD b, ps)) : v = .agg (flC b) := by
  unfold flElem at h
  split at h
  · rename_i cs
    split at h
    · rename_i p q hcs
      simp only [flD, Option.some.injEq, Prod.mk.injEq, DataW.agg.injEq, List.cons.injEq, DataW.lit.injEq, Lit.string.injEq, and_true] at h
      obtain ⟨⟨h1, h2⟩, _⟩ := h
      have e1 : strB b.1 = p := by rw [← h1]; exact strB_of p
      have e2 : strB b.2 = q := by rw [← h2]; exact strB_of q
      unfold flC
      rw [e1, e2]
      congr 1
      exact Array.toList_inj.1 hcs
    · cases h
  · cases h
theorem zeroFl (w : World) : (zeroValue FileT).run Tryd.prog w = .ok (.agg (flC ([], []))) w := by kernel_rfl
/-- The first files of each path, in their order; what a path's is. -/
def seeP (h : List FileL) (x : FileL) : List FileL := if x.1 ∈ h.map (·.1) then h else h ++ [x]
def byF (l : List FileL) : List FileL := l.foldl seeP []
def lookP (h : List FileL) (p : List UInt8) : Option FileL := h.find? (fun f => f.1 == p)
theorem byF_snoc (l : List FileL) (x : FileL) : byF (l ++ [x]) = seeP (byF l) x := by unfold byF; rw [List.foldl_append]; rfl
theorem seeP_len (h : List FileL) (x : FileL) : (seeP h x).length ≤ h.length + 1 := by unfold seeP; split <;> simp
theorem byF_len : ∀ (l : List FileL), (byF l).length ≤ l.length := fun l => by
  have : ∀ (l h : List FileL), (l.foldl seeP h).length ≤ h.length + l.length := by
    intro l
    induction l with
    | nil => intro h; simp
    | cons x l ih => intro h; have h1 := ih (seeP h x); have h2 := seeP_len h x; simp only [List.foldl_cons, List.length_cons]; omega
  have h := this l []
  rw [List.length_nil, Nat.zero_add] at h
  exact h
theorem lookP_some {h : List FileL} {p : List UInt8} : (lookP h p).isSome = decide (p ∈ h.map (·.1)) := by
  unfold lookP
  rw [Bool.eq_iff_iff, List.find?_isSome, decide_eq_true_iff, List.mem_map]
  constructor
  · rintro ⟨x, h1, h2⟩; exact ⟨x, h1, by simpa using h2⟩
  · rintro ⟨x, h1, h2⟩; exact ⟨x, h1, by simpa using h2⟩
theorem lookP_snoc {h : List FileL} {x : FileL} (hx : x.1 ∉ h.map (·.1)) (p : List UInt8) : lookP (h ++ [x]) p = if p = x.1 then some x else lookP h p := by
  unfold lookP
  rw [List.find?_append]
  by_cases hp : p = x.1
  · rw [if_pos hp]
    have h1 : h.find? (fun f => f.1 == p) = none := by
      rw [List.find?_eq_none]
      intro y hy hyp
      exact hx (List.mem_map.2 ⟨y, hy, by rw [← hp]; simpa using hyp⟩)
    rw [h1]
    simp [hp]
  · rw [if_neg hp]
    have : ([x].find? fun f => f.1 == p) = none := by
      rw [List.find?_eq_none]
      intro y hy hyp
      rw [List.mem_singleton.1 hy] at hyp
      exact hp (beq_iff_eq.1 hyp).symm
    rw [this]; simp
/-- Block kb is the map of these files. -/
def ByAt (w : World) (kb : Nat) (h : List FileL) : Prop :=
  ∃ D, w.ownsMap Tryd.prog 9 flElem kb h.length D ∧ Maps.size D = h.length ∧ (∀ p ∈ h, p.1.length ≤ 4000000000) ∧ ∀ s : List UInt8, Maps.has D (.string s) = (lookP h s).isSome ∧ D.atKey (.string s) (flD ([], [])) = flD ((lookP h s).getD ([], []))
section
variable {w w' : World} {kb : Nat} {h : List FileL}
theorem ByAt.lt (H : ByAt w kb h) : kb < w.heap.size := by obtain ⟨D, h1, _⟩ := H; exact h1.lt
theorem ByAt.kept {row : Option Nat} (H : ByAt w kb h) (hg : w.grownBy w' row) (hne : some kb ≠ row) : ByAt w' kb h := by
  obtain ⟨D, h1, h2⟩ := H
  exact ⟨D, h1.kept hg hne, h2⟩
theorem ByAt.below (H : ByAt w kb h) (hb : Below w.heap.size w w') : ByAt w' kb h := H.kept (row := none) ⟨hb.os, hb.tape, hb.output, hb.size, fun k hk _ => hb.block k hk⟩ (by simp)
theorem ByAt.nocell (H : ByAt w kb h) (j : Nat) : w.cell? ⟨kb, j, none⟩ = none := by
  obtain ⟨D, ⟨es, cl, hb, _⟩, _⟩ := H
  unfold World.cell?
  simp [hb]
theorem byAt_new (w : World) : ByAt (w.alloc (.map #[] 0)) w.heap.size [] :=
  ⟨.map [], World.ownsMap_made _ _ _ _, rfl, (fun p hp => by cases hp), fun s => ⟨rfl, rfl⟩⟩
theorem exec_lookB (H : ByAt w kb h) {o : Oper} {a : Act} (mo x : Operand) (ho : o.op = .lookup 57 mo x true) (hm : a.eval mo = .map (some kb)) (s : List UInt8) (hs : s.length ≤ 4000000000) (hx : a.eval x = .string (strB s)) (q : Bool) (hq : (lookP h s).isSome = q) (p2 q2 : List UInt8) (hf : (lookP h s).getD ([], []) = (p2, q2)) :
    (execOp a.eval o).run Tryd.prog w = .ok (.value (.tuple #[.agg #[.string (strB p2), .string (strB q2)], .bool q])) w := by
  obtain ⟨D, h1, _, _, h2⟩ := H
  obtain ⟨h3, h4⟩ := h2 s
  obtain ⟨v, ps, hrun, hv⟩ := h1.look_ok (t := 57) (e := FileT) keyedS Tryd.underlying57 (zeroFl w) (zd := flD ([], [])) (zp := []) (flElem_mk ([], [])) (keySt hs)
  rw [h3, hq] at hrun
  rw [h4, hf] at hv
  obtain rfl := flElem_inv hv
  unfold execOp
  simp only [ho, hm, hx]
  simp only [Sem.run_bind, hrun, Result.andThen_ok, Sem.run_pure]
  rfl
set_option maxRecDepth 100000 in
theorem wl_byPut (H : ByAt w kb h) {ops : Array Oper} {rest : List Oper} {o : Oper} {a : Act} {Q : Exit → Act → World → Prop} (hgd : o.guard = none) (hk : h.length ≤ 1000000) (mo x y : Operand) (ho : o.op = .mapUpdate 57 mo x y) (hm : a.eval mo = .map (some kb)) (f : FileL) (hs : f.1.length ≤ 4000000000) (hx : a.eval x = .string (strB f.1)) (hno : f.1 ∉ h.map (·.1)) (hy : a.eval y = .agg (flC f))
    (hK : ∀ w', ByAt w' kb (h ++ [f]) → w.grownBy w' (some kb) → wpList Tryd.prog ops Q rest (a.put o.dst undef) w') : wpList Tryd.prog ops Q (o :: rest) a w := by
  obtain ⟨D, h1, hsz, hsm, h2⟩ := H
  obtain ⟨w', hrun, r1, r2⟩ := World.ownsMap.store (t := 57) (e := FileT) h1 keyedS Tryd.underlying57 (by unfold maxLen; omega) (keySt hs) (val := .agg (flC f)) (d := flD f) (ps := []) (flElem_mk f)
  refine wpList_plain hgd fun K hK' => ?_
  unfold Oper.wp
  simp [execOp, ho, hm, hx, hy, hrun, Result.andThen]
  refine hK' _ _ (hK w' ⟨_, by rw [List.length_append]; exact r1, ?_, fun p hp => ?_, fun z => ?_⟩ r2.grown)
  · rw [Maps.size_put (h1.tidy keyedS), (h2 f.1).1, List.length_append, hsz, lookP_some]
    simp [hno]
  · rcases List.mem_append.1 hp with hp | hp
    · exact hsm p hp
    · rw [List.mem_singleton.1 hp]; exact hs
  · rw [lookP_snoc hno]
    by_cases he : z = f.1
    · subst he
      rw [if_pos rfl]
      exact ⟨by rw [Maps.has_put_same h1.isMap (keyedS.key (keySt hs))]; rfl, by rw [Maps.atKey_put_same h1.isMap (keyedS.key (keySt hs))]; rfl⟩
    · have hne : (Lit.string z) ≠ Lit.string f.1 := fun e => he (by injection e)
      obtain ⟨h3, h4⟩ := h2 z
      rw [if_neg he]
      exact ⟨by rw [Maps.has_put_other hne, h3], by rw [Maps.atKey_put_other hne, h4]⟩
end
/-- A map of files, told. -/
def ByIs (L : List FileL) (w : World) (e : Ending) (w' : World) : Prop := ∃ kb, e = .returned (.map (some kb)) ∧ ByAt w' kb (byF L) ∧ w.heap.size ≤ kb ∧ Below w.heap.size w w'
theorem below_low {w w1 w2 : World} {b : Nat} (h : Below b w w1) {row : Option Nat} (hg : w1.grownBy w2 row) (hr : ∀ k, row = some k → b ≤ k) (hs : b ≤ w1.heap.size) : Below b w w2 := h.grown hg hs hr
set_option maxRecDepth 100000 in
set_option maxHeartbeats 2000000 in
theorem byPath_any (a : Option Addr) (n c : Nat) (L : List FileL) (w : World) (hL : FilesAt w a n c L) (hl : ∀ f ∈ L, f.1.length ≤ 4000000000) (hn : n ≤ 5000) :
    Calls Tryd.prog 25 #[.slice a n c] w (ByIs L w) := by
  have hmm := @run_makeMap Tryd.prog
  have HL := Lib.hid hL
  have HLL := Lib.hid hl
  have HN : Hid (n ≤ 5000 ∧ L.length = n) := Lib.hid ⟨hn, hL.1⟩
  obtain ⟨g, hg⟩ : ∃ g, w.heap.size = g := ⟨_, rfl⟩
  obtain ⟨w1, hw1⟩ : ∃ W, w.alloc (.map #[] 0) = W := ⟨_, rfl⟩
  have HM1 : Hid (ByAt w1 g []) := Lib.hid (hw1 ▸ hg ▸ byAt_new w)
  have HB1 : Hid (Below w.heap.size w w1) := Lib.hid (hw1 ▸ (Below.refl _ _).alloc (Nat.le_refl _) _)
  have HG := Lib.hid hg
  clear hL hl hn
  go_enter Tryd.func25, Tryd.ntmps25
  go_wp2
  clear hw1
  go_loopg [11] n (fun gk v11 W => ∃ i : Nat, v11 = .int .i64 (i : Nat) ∧ Hid (gk + i = n) ∧ Hid (ByAt W g (byF (L.take i))) ∧ Hid (Below w.heap.size w W))
  case atStart => exact ⟨0, rfl, Lib.hid rfl, HM1, HB1⟩
  case round =>
    obtain ⟨i, rfl, HI, HM, HB⟩ := hrel
    by_cases hi : (i : Int) < (n : Int)
    · have hn := HN.out
      obtain ⟨⟨p, q⟩, hf⟩ : ∃ f, L.getD i ([], []) = f := ⟨_, rfl⟩
      obtain ⟨b, off, rfl, hc0, hc1⟩ : ∃ b off, a = some ⟨b, off, none⟩ ∧ wr.cell? ⟨b, off + i * 2, none⟩ = some (.string (strB p)) ∧ wr.cell? ⟨b, off + i * 2 + 1, none⟩ = some (.string (strB q)) := by
        obtain ⟨_, _, _, h4⟩ := HL.out
        rcases h4 with ⟨h0, _⟩ | ⟨b, off, ha, hc⟩
        · omega
        · obtain ⟨c1, c2⟩ := hc i (by omega)
          rw [show (default : FileL) = ([], []) from rfl, hf] at c1 c2
          exact ⟨b, off, ha, (HB.out.cell (World.block_lt_of_cell? _ _ c1)).trans c1, (HB.out.cell (World.block_lt_of_cell? _ _ c2)).trans c2⟩
      have HPL : Hid (p.length ≤ 4000000000) := Lib.hid (by
        have h1 := HLL.out (L.getD i ([], [])) (by rw [List.getD_eq_getElem?_getD, List.getElem?_eq_getElem (by omega)]; exact List.getElem_mem _)
        rw [hf] at h1; exact h1)
      obtain ⟨h, hh⟩ : ∃ h, byF (L.take i) = h := ⟨_, rfl⟩
      have HSN : Hid (byF (L.take (i + 1)) = seeP h (p, q)) := Lib.hid (by rw [take_snoc L i ([], []) (by omega), byF_snoc, hf, hh])
      have HHL : Hid (h.length ≤ 5000) := Lib.hid (by have h1 := byF_len (L.take i); rw [hh, List.length_take] at h1; omega)
      rw [hh] at HM
      have HIN : Hid (i < n) := Lib.hid (by omega)
      have hi0 : (0 : Int) ≤ (i : Int) := by omega
      have W1 : IntKind.i64.wrap ((i : Int) + 1) = (i : Int) + 1 := IntWalk.i64_in _ (by omega)
      have HAL : Hid (∀ (W : World) o, Below W.heap.size W (W.alloc o)) := Lib.hid (fun W o => (Below.refl _ _).alloc (Nat.le_refl _) o)
      obtain ⟨⟨p2, q2⟩, hf2⟩ : ∃ f, (lookP h p).getD ([], []) = f := ⟨_, rfl⟩
      have HF2 := Lib.hid hf2
      clear hf hh hn hf2
      by_cases hin : p ∈ h.map (·.1)
      · have HQ : Hid ((lookP h p).isSome = true) := Lib.hid (by rw [lookP_some]; exact decide_eq_true hin)
        have HSE : Hid (seeP h (p, q) = h) := Lib.hid (by unfold seeP; rw [if_pos hin])
        clear hin
        go_wp2_with ((with_reducible show wpList _ _ _ (⟨some 19, _, _, _, _, _⟩ :: _) _ _); go_must (refine wl_exN rfl (exec_lookB (HM.out.below (HAL.out _ _)) _ _ rfl rfl p HPL.out rfl true HQ.out p2 q2 HF2.out) ?_))
        go_roundg (gk - 1)
        case measure => have h1 := HI.out; have h2 := HIN.out; omega
        case rel => exact ⟨i + 1, by go_num, Lib.hid (by have h1 := HI.out; have h2 := HIN.out; omega), Lib.hid (by rw [HSN.out, HSE.out]; exact (HM.out.below (HAL.out _ _)).below (HAL.out _ _)), Lib.hid ((HB.out.alloc HB.out.size _).alloc (by have := HB.out.size; simp; omega) _)⟩
      · have HQ : Hid ((lookP h p).isSome = false) := Lib.hid (by rw [lookP_some]; exact decide_eq_false hin)
        have HSE : Hid (seeP h (p, q) = h ++ [(p, q)]) := Lib.hid (by unfold seeP; rw [if_neg hin])
        have HNI := Lib.hid hin
        clear hin
        go_wp2_with (first
          | ((with_reducible show wpList _ _ _ (⟨some 19, _, _, _, _, _⟩ :: _) _ _); go_must (refine wl_exN rfl (exec_lookB (HM.out.below (HAL.out _ _)) _ _ rfl rfl p HPL.out rfl false HQ.out p2 q2 HF2.out) ?_))
          | ((with_reducible show wpList _ _ _ (⟨_, Op.mapUpdate _ _ _ _, _, _, _, _⟩ :: _) _ _); go_must (refine wl_byPut ((HM.out.below (HAL.out _ _)).below (HAL.out _ _)) rfl (by have := HHL.out; omega) _ _ _ rfl rfl (p, q) HPL.out rfl HNI.out rfl ?_); intro w5 hm5 hg5; have HM5 := Lib.hid hm5; have HB5 := Lib.hid (((HB.out.alloc HB.out.size _).alloc (by have := HB.out.size; simp; omega) _).grown hg5 (by have := HB.out.size; simp; omega) (fun k e => by have h1 := HG.out; have h2 := Option.some.inj e; omega)); clear hm5 hg5))
        go_roundg (gk - 1)
        case measure => have h1 := HI.out; have h2 := HIN.out; omega
        case rel => exact ⟨i + 1, by go_num, Lib.hid (by have h1 := HI.out; have h2 := HIN.out; omega), Lib.hid (by rw [HSN.out, HSE.out]; exact HM5.out), HB5⟩
    · have hin : i = n := by have := HI.out; omega
      subst hin
      go_wp2
      go_ret
      have e : L.take i = L := List.take_of_length_le (by have := HN.out; omega)
      rw [e] at HM
      exact ⟨g, rfl, HM.out, by have := HG.out; omega, HB.out⟩
#print axioms byPath_any
end Go.Proofs.YtfoalaoanpbmeaaDoor
