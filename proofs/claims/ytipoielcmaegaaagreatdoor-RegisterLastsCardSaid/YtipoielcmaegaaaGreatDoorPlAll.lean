/-
  Merged: One0, Ints, SortSeg, IntMerge, PlaceIns, IntSort, RefPlaces.
-/
import Derived.Test.YtipoielcmaegaaaGreatDoorProg
import Derived.WalkKit
import Derived.WalkSpells
import Derived.Laws.AppendOwnNone
import Derived.Laws.OwnMore
import Derived.Deep.LoopGhost
import Derived.Deep.QuietTactic
import Derived.BigQuiet
import Derived.WalkSmall
import Derived.Lib.Hide
import Derived.StillTailTactics
import Derived.ChangeKeysEq
import Derived.Laws.StructEq
import Derived.Test.YtipoielcmaegaaaGreatDoorSortMathG
import Derived.Test.YtipoielcmaegaaaGreatDoorKeysAt
import Derived.Maps.AppendAt
import Derived.Lib.SliceRun
namespace Go.Proofs.YtipoielcmaegaaaGreatDoor.Pl
open Go.RowKit

section
variable (mk : Nat → Value) (E : TypeId)

/-- A slice value reads as these. -/
def At1 (w : World) (a : Option Addr) (n c : Nat) (L : List Nat) : Prop :=
  L.length = n ∧ n ≤ c ∧ c ≤ 9223372036854775807 ∧ ((n = 0 ∧ c = 0) ∨ ∃ b off, a = some ⟨b, off, none⟩ ∧ ∀ j, j < n → w.cell? ⟨b, off + j, none⟩ = some (mk (L.getD j 0)))
/-- A value that owns these, in memory from a block on. -/
def Own1 (w : World) (base : Nat) (v : Value) (L : List Nat) : Prop := w.ownsRow base E 1 v L.length (L.map mk)
end

section
variable {mk : Nat → Value} {E : TypeId} {w w' : World} {a : Option Addr} {n c base : Nat} {L : List Nat} {v : Value}

theorem At1.nil : At1 mk w none 0 0 [] := ⟨rfl, Nat.le_refl _, by omega, .inl ⟨rfl, rfl⟩⟩
theorem At1.below (h : At1 mk w a n c L) (hb : Below w.heap.size w w') : At1 mk w' a n c L := by
  obtain ⟨h1, h2, h3, h4⟩ := h
  refine ⟨h1, h2, h3, ?_⟩
  rcases h4 with h4 | ⟨b, off, ha, hc⟩
  · exact .inl h4
  · exact .inr ⟨b, off, ha, fun j hj => (hb.cell (World.block_lt_of_cell? _ _ (hc j hj))).trans (hc j hj)⟩
theorem At1.some_ (h : At1 mk w a n c L) (hn : 0 < n) : ∃ b off, a = some ⟨b, off, none⟩ := by
  rcases h.2.2.2 with ⟨h0, _⟩ | ⟨b, off, ha, _⟩
  · omega
  · exact ⟨b, off, ha⟩
theorem At1.cell {b off : Nat} (h : At1 mk w (some ⟨b, off, none⟩) n c L) (j : Nat) (hj : j < n) : w.cell? ⟨b, off + j, none⟩ = some (mk (L.getD j 0)) := by
  rcases h.2.2.2 with ⟨h0, _⟩ | ⟨b', off', ha, hc⟩
  · omega
  · simp only [Option.some.injEq, Addr.mk.injEq, and_true] at ha
    obtain ⟨rfl, rfl⟩ := ha
    exact hc j hj

theorem Own1.nil : Own1 mk E w base (.slice none 0 0) [] := World.ownsRow_nil _ _ _ _
theorem Own1.at1_ (h : Own1 mk E w base v L) : ∃ a c, v = .slice a L.length c ∧ At1 mk w a L.length c L := by
  have h0 := h
  obtain ⟨h1, h2⟩ := h
  rcases h2 with ⟨rfl, hn⟩ | ⟨g, cap, cur, rfl, hb, hg, hn, hm, hs, ht⟩
  · have : L = [] := List.length_eq_zero_iff.1 hn
    subst this
    exact ⟨none, 0, rfl, At1.nil⟩
  · refine ⟨_, _, rfl, rfl, hn, by unfold maxLen at hm; omega, .inr ⟨g, 0, rfl, fun j hj => ?_⟩⟩
    have := h0.cells (g := g) rfl j (mk (L.getD j 0)) (by rw [List.getElem?_map]; simp [hj])
    rw [Addr.add_lit] at this
    exact this
theorem Own1.at1 (h : Own1 mk E w base (.slice a n c) L) : At1 mk w a n c L := by
  obtain ⟨a', c', hv, hb⟩ := h.at1_
  simp only [Value.slice.injEq] at hv
  obtain ⟨rfl, rfl, rfl⟩ := hv
  exact hb
theorem Own1.alloc (h : Own1 mk E w base v L) (o : Obj) : Own1 mk E (w.alloc o) base v L := World.ownsRow.alloc h o
theorem Own1.lt (h : Own1 mk E w base v L) : ∀ k, v.ownBlock = some k → base ≤ k ∧ k < w.heap.size := World.ownsRow.lt h
theorem Own1.mono {base' : Nat} (h : Own1 mk E w base v L) (hb : base' ≤ base) : Own1 mk E w base' v L := by
  obtain ⟨h1, h2⟩ := h
  refine ⟨h1, ?_⟩
  rcases h2 with h2 | ⟨g, cap, cur, hv, hg, r⟩
  · exact .inl h2
  · exact .inr ⟨g, cap, cur, hv, by omega, r⟩
theorem Own1.below (h : Own1 mk E w base v L) (hb : Below w.heap.size w w') : Own1 mk E w' base v L := by
  obtain ⟨h1, h2⟩ := h
  refine ⟨h1, ?_⟩
  rcases h2 with h2 | ⟨g, cap, cur, hv, hg, hh, r⟩
  · exact .inl h2
  · refine .inr ⟨g, cap, cur, hv, hg, ?_, r⟩
    have hlt : g < w.heap.size := by
      rcases Nat.lt_or_ge g w.heap.size with h | h
      · exact h
      · rw [Array.getElem?_eq_none h] at hh; cases hh
    rw [hb.block g hlt]; exact hh
theorem Own1.kept {row : Option Nat} (h : Own1 mk E w base v L) (hg : w.grownBy w' row) (hne : v.ownBlock = none ∨ v.ownBlock ≠ row) : Own1 mk E w' base v L := World.ownsRow.kept h hg hne
theorem Own1.row (h : Own1 mk E w base (.slice a n c) L) (hn : 0 < n) : ∃ g, a = some ⟨g, 0, none⟩ ∧ base ≤ g ∧ g < w.heap.size ∧ L.length = n ∧ (∀ j, w.frozen? ⟨g, j, none⟩ = false) := by
  have h0 := h
  obtain ⟨h1, h2⟩ := h
  rcases h2 with ⟨hv, hz⟩ | ⟨g, cap, cur, hv, hb, hg, hle, hm, hs, ht⟩
  · simp only [Value.slice.injEq] at hv; omega
  · simp only [Value.slice.injEq] at hv
    obtain ⟨rfl, rfl, rfl⟩ := hv
    have hlt : g < w.heap.size := by
      rcases Nat.lt_or_ge g w.heap.size with h | h
      · exact h
      · rw [Array.getElem?_eq_none h] at hg; cases hg
    exact ⟨g, rfl, hb, hlt, rfl, fun j => World.ownsRow.frozenAt h0 j⟩
theorem Own1.store {g : Nat} (h : Own1 mk E w base (.slice (some ⟨g, 0, none⟩) n c) L) (hn : L.length = n) (j x : Nat) : Own1 mk E (w.setCell ⟨g, j, none⟩ (mk x)) base (.slice (some ⟨g, 0, none⟩) n c) (L.set j x) := by
  subst hn
  have := (World.ownsRow.stored h j (mk x)).1
  unfold Own1
  rw [List.length_set, List.map_set]
  exact this
theorem Own1.len (h : Own1 mk E w base (.slice a n c) L) : L.length = n := h.at1.1
end

/-- An append to what is the call's own, of one cell each. -/
theorem app1 (mk : Nat → Value) (h1c : ∀ x, (mk x).oneCell' = true) {T E : TypeId} {z : Value} {by_ : Nat} (hU : Tryz.prog.underlying T = some (.slice E)) (hI : (Tryz.prog.info? E).map (fun i => (i.zero, i.size, i.bytes)) = some (some z, 1, by_)) (hz : z.cells.size = 1)
    {w : World} {ops : Array Oper} {rest : List Oper} {o : Oper} {a : Act} {Q : Exit → Act → World → Prop} (hgd : o.guard = none) (s x : Operand)
    (ho : o.op = .call { callee := .builtin .append, args := #[s, x], argTypes := #[T, T] })
    (base : Nat) (v : Value) (l : List Nat) (hs : a.eval s = v) (hown : Own1 mk E w base v l)
    (sa : Option Addr) (m c : Nat) (src : List Nat) (hx : a.eval x = .slice sa m c) (hsrc : At1 mk w sa m c src)
    (h48 : (l.length + m) * (by_ + 1) ≤ 140737488355328) (hbase : base ≤ w.heap.size) (r : Nat) (hr : r = l.length + m)
    (h : ∀ a' c' w', Own1 mk E w' base (.slice a' r c') (l ++ src) → w.grownBy w' v.ownBlock → wpList Tryz.prog ops Q rest (a.put o.dst (.slice a' r c')) w') : wpList Tryz.prog ops Q (o :: rest) a w := by
  obtain ⟨i0, hi, hz0, hz1, hz2⟩ := info_parts hI
  obtain ⟨h1, h2, h3, h4⟩ := hsrc
  have fin : ∀ v' w', Own1 mk E w' base v' (l ++ src) → w.grownBy w' v.ownBlock → wpList Tryz.prog ops Q rest (a.put o.dst v') w' := by
    intro v' w' ho hg
    obtain ⟨a', c', rfl, _⟩ := ho.at1_
    have e : (l ++ src).length = r := by rw [List.length_append, h1, hr]
    rw [e] at ho ⊢
    exact h a' c' w' ho hg
  have e48 : (l.length + m) * by_ ≤ 140737488355328 := Nat.le_trans (Nat.mul_le_mul_left _ (by omega)) h48
  have e63 : l.length + m ≤ 140737488355328 := Nat.le_trans (Nat.le_mul_of_pos_right _ (by omega)) h48
  rcases h4 with ⟨rfl, rfl⟩ | ⟨b, off, rfl, hc⟩
  · have : src = [] := List.length_eq_zero_iff.1 h1
    subst this
    cases sa with
    | none =>
      refine wpList_append_own_none hgd s x T ho base E i0 1 hU hi v l.length (l.map mk) hs hown hx ?_
      exact fin v w (by rw [List.append_nil]; exact hown) ⟨rfl, rfl, rfl, Nat.le_refl _, fun _ _ _ => rfl⟩
    | some ad =>
      refine wpList_append_own w hgd s x T ho base E i0 z 1 by_ hU hi hz0 hz1 hz2 hz (by decide) v l.length (l.map mk) hs hown
        ad 0 0 [] hx (by simp) (by simp) (by simp) (by unfold maxLen; omega) (by omega) hbase ?_
      intro v' w' h5 h6 _
      exact fin v' w' (by rw [List.append_nil]; simpa [Own1] using h5) h6
  · refine wpList_append_own w hgd s x T ho base E i0 z 1 by_ hU hi hz0 hz1 hz2 hz (by decide) v l.length (l.map mk) hs hown
      ⟨b, off, none⟩ m c (src.map mk) hx (by simp [h1]) ?_ ?_ (by unfold maxLen; omega) (by omega) hbase ?_
    · intro j u hu
      rw [List.getElem?_map] at hu
      have hj : j < src.length := by
        rcases Nat.lt_or_ge j src.length with h | h
        · exact h
        · rw [List.getElem?_eq_none h] at hu; cases hu
      have := hc j (by omega)
      simp only [List.getElem?_eq_getElem hj, Option.map_some, Option.some.injEq] at hu
      subst hu
      rw [Addr.add_lit, this]
      simp [hj]
    · intro u hu
      obtain ⟨x, _, rfl⟩ := List.mem_map.1 hu
      exact h1c x
    · intro v' w' h5 h6 _
      refine fin v' w' ?_ h6
      unfold Own1
      rw [List.length_append, List.map_append, h1]
      exact h5

/-- 'make' of so many elements of one cell. -/
theorem make1 (mk : Nat → Value) {T E : TypeId} {by_ z0 : Nat} (hU : Tryz.prog.underlying T = some (.slice E)) (hI : (Tryz.prog.info? E).map (fun i => (i.zero, i.size, i.bytes)) = some (some (mk z0), 1, by_)) (hmk : (mk z0).cells = #[mk z0])
    {w : World} {ops : Array Oper} {rest : List Oper} {o : Oper} {a : Act} {Q : Exit → Act → World → Prop} (hgd : o.guard = none) (x y : Operand) (ho : o.op = Op.makeSlice T x y)
    (n : Nat) (hx : a.eval x = .int .i64 (n : Int)) (hy : a.eval y = .int .i64 (n : Int)) (hn : n ≤ 1000000000) (hb : by_ ≤ 1000)
    (h : ∀ w', Own1 mk E w' w.heap.size (.slice (some ⟨w.heap.size, 0, none⟩) n n) (List.replicate n z0) → w.grownBy w' none → wpList Tryz.prog ops Q rest (a.put o.dst (.slice (some ⟨w.heap.size, 0, none⟩) n n)) w') : wpList Tryz.prog ops Q (o :: rest) a w := by
  obtain ⟨i0, hi, hz0, hz1, hz2⟩ := info_parts hI
  have h48 : n * by_ ≤ 1000000000 * 1000 := Nat.mul_le_mul hn hb
  refine wpList_make_full w hgd x y _ ho w.heap.size E i0 (mk z0) 1 hU hi hz0 hz1 .i64 .i64 _ _ n hx hy rfl rfl (by rw [hz2, Nat.mul_comm]; omega) (by unfold maxLen; omega) (Nat.le_refl _) ?_
  intro w' h1 h2
  refine h w' ?_ h2
  unfold Own1
  rw [List.length_replicate, List.map_replicate]
  have e : (madeCells (mk z0).cells (n * 1)).toList = List.replicate n (mk z0) := by
    rw [hmk]
    apply List.ext_getElem
    · simp [madeCells]
    · intro i h3 h4
      simp [madeCells, Nat.mod_one]
  rw [← e]
  exact h1

/-- An int. -/
def N (i : Nat) : Value := .int .i64 (i : Int)
theorem infoN : (Tryz.prog.info? 3).map (fun i => (i.zero, i.size, i.bytes)) = some (some (N 0), 1, 8) := by kernel_rfl
#print axioms app1
#print axioms make1
end Go.Proofs.YtipoielcmaegaaaGreatDoor.Pl

namespace Go.Proofs.YtipoielcmaegaaaGreatDoor.Pl
open Go.RowKit

theorem retBo {a b : Bool} (h : a = b) : Ending.returned (.bool a) = .returned (.bool b) := by rw [h]

theorem take_next_n {l m : List Nat} {j : Nat} (h : l.take j = m.take j) (hl : j < l.length) (hm : j < m.length) (he : l.getD j 0 = m.getD j 0) : l.take (j + 1) = m.take (j + 1) := by
  rw [List.take_succ_eq_append_getElem hl, List.take_succ_eq_append_getElem hm, h]
  simp [hl, hm] at he
  rw [he]

end Go.Proofs.YtipoielcmaegaaaGreatDoor.Pl

namespace Go.Proofs.YtipoielcmaegaaaGreatDoor.Pl

/-- Each part of so many has the same elements. -/
def SegP (q : Nat) (L l : List Nat) : Prop := ∀ i, ((L.drop (i * q)).take q).Perm ((l.drop (i * q)).take q)
theorem segP_one (l : List Nat) (q : Nat) : SegP q l l := fun _ => List.Perm.refl _
theorem segP_two {q : Nat} {L l : List Nat} (h : SegP q L l) (i : Nat) : ((L.drop (i * (2 * q))).take (2 * q)).Perm ((l.drop (i * (2 * q))).take (2 * q)) := by
  have e : ∀ M : List Nat, (M.drop (i * (2 * q))).take (2 * q) = (M.drop (i * 2 * q)).take q ++ (M.drop ((i * 2 + 1) * q)).take q := fun M => by
    rw [show 2 * q = q + q from by omega, List.take_add, List.drop_drop, show i * (q + q) = i * 2 * q from by rw [Nat.mul_assoc, Nat.two_mul],
      show (i * 2 + 1) * q = i * 2 * q + q from by rw [Nat.add_mul, Nat.one_mul]]
  rw [e, e]
  exact (h (i * 2)).append (h (i * 2 + 1))

/-- The parts, as far as the pass is. -/
def SegT (q t : Nat) (l R : List Nat) : Prop := ∀ i, i < t → ((R.drop (i * (2 * q))).take (2 * q)).Perm ((l.drop (i * (2 * q))).take (2 * q))
theorem segT_zero (q : Nat) (l R : List Nat) : SegT q 0 l R := fun _ h => by omega
theorem segT_step {le : Nat → Nat → Bool} {q t : Nat} {l L R : List Nat} (hs : SegP q L l) (hl : R.length = L.length) (h : SegT q t l R) (hf : t * (2 * q) < L.length) :
    SegT q (t + 1) l (R.take (t * (2 * q)) ++ (twoG le q (t * (2 * q)) L ++ R.drop (t * (2 * q) + (twoG le q (t * (2 * q)) L).length))) := by
  have hM := twoG_length le q (t * (2 * q)) L
  have hMp := (twoG_perm le q (t * (2 * q)) L).trans (segP_two hs t)
  intro i hi
  have h3 := h i
  have hF : t * (2 * q) = t * (2 * q) := rfl
  generalize hF' : t * (2 * q) = f at *
  generalize twoG le q f L = M at *
  generalize hs' : 2 * q = s at *
  have htk : (R.take f).length = f := by simp; omega
  have hcut : (M ++ R.drop (f + M.length)).take s = M := by
    by_cases hc : f + s ≤ L.length
    · rw [List.take_append_of_le_length (by omega), List.take_of_length_le (by omega)]
    · rw [List.drop_eq_nil_of_le (by omega), List.append_nil, List.take_of_length_le (by omega)]
  by_cases hit : i < t
  · have hle : i * s + s ≤ f := by
      have : (i + 1) * s ≤ t * s := Nat.mul_le_mul_right s (by omega)
      rw [Nat.add_mul, Nat.one_mul] at this
      omega
    rw [List.drop_append_of_le_length (by omega), List.take_append_of_le_length (by simp; omega), List.drop_take, List.take_take, show min s (f - i * s) = s from by omega]
    exact h3 hit
  · obtain rfl : i = t := by omega
    rw [hF']
    rw [show (R.take f ++ (M ++ R.drop (f + M.length))).drop f = M ++ R.drop (f + M.length) from by
      have := @List.drop_append _ (R.take f) (M ++ R.drop (f + M.length)) f
      rw [this, List.drop_eq_nil_of_le (by omega), htk, Nat.sub_self, List.drop_zero, List.nil_append]]
    rw [hcut]
    exact hMp
theorem segT_end {q t : Nat} {l R : List Nat} (hl : R.length = l.length) (h : SegT q t l R) (hf : l.length ≤ t * (2 * q)) : SegP (2 * q) R l := fun i => by
  by_cases hi : i < t
  · exact h i hi
  · have : t * (2 * q) ≤ i * (2 * q) := Nat.mul_le_mul_right _ (by omega)
    rw [List.drop_eq_nil_of_le (by omega), List.drop_eq_nil_of_le (by omega)]
/-- A part of the places from zero. -/
theorem mem_part {n f q x : Nat} (h : x ∈ ((List.range n).drop f).take q) : f ≤ x ∧ x < f + q ∧ x < n := by
  obtain ⟨j, hj, rfl⟩ := List.mem_iff_getElem.1 h
  simp at hj
  simp
  omega
theorem seg_apart {n q t : Nat} {L : List Nat} (h : SegP q L (List.range n)) : (∀ x ∈ (L.drop (t * (2 * q))).take q, x < n) ∧ (∀ x ∈ (L.drop (t * (2 * q) + q)).take q, x < n) ∧
    ∀ x ∈ (L.drop (t * (2 * q))).take q, ∀ y ∈ (L.drop (t * (2 * q) + q)).take q, x < y := by
  have e1 : t * (2 * q) = t * 2 * q := by rw [Nat.mul_assoc]
  have e2 : t * (2 * q) + q = (t * 2 + 1) * q := by rw [e1, Nat.add_mul, Nat.one_mul]
  have p1 : ∀ x ∈ (L.drop (t * (2 * q))).take q, t * (2 * q) ≤ x ∧ x < t * (2 * q) + q ∧ x < n := fun x hx => by
    rw [e1] at hx ⊢
    exact mem_part ((h (t * 2)).mem_iff.1 hx)
  have p2 : ∀ x ∈ (L.drop (t * (2 * q) + q)).take q, t * (2 * q) + q ≤ x ∧ x < t * (2 * q) + q + q ∧ x < n := fun x hx => by
    rw [e2] at hx ⊢
    exact mem_part ((h (t * 2 + 1)).mem_iff.1 hx)
  exact ⟨fun x hx => (p1 x hx).2.2, fun x hx => (p2 x hx).2.2, fun x hx y hy => by have := p1 x hx; have := p2 y hy; omega⟩
#print axioms seg_apart
#print axioms segT_step
#print axioms segT_end
end Go.Proofs.YtipoielcmaegaaaGreatDoor.Pl

namespace Go.Proofs.YtipoielcmaegaaaGreatDoor.Pl
open Go.RowKit

def NotInG (a : Option Addr) (g : Nat) : Prop := ∀ b off, a = some ⟨b, off, none⟩ → b ≠ g
theorem cell_grown {w w' : World} {b o gr : Nat} {v : Value} (h : w.cell? ⟨b, o, none⟩ = some v) (hg : w.grownBy w' (some gr)) (hne : b ≠ gr) : w'.cell? ⟨b, o, none⟩ = some v := by
  have hlt : b < w.heap.size := World.block_lt_of_cell? _ _ h
  have hb := hg.block b hlt (by simpa using hne)
  rw [← h]
  unfold World.cell?
  rw [hb]
theorem At1.keptG {w w' : World} {a : Option Addr} {n c gr : Nat} {L : List Nat} (h : At1 N w a n c L) (hg : w.grownBy w' (some gr)) (hn : NotInG a gr) : At1 N w' a n c L := by
  obtain ⟨h1, h2, h3, h4⟩ := h
  refine ⟨h1, h2, h3, ?_⟩
  rcases h4 with h4 | ⟨b, off, ha, hc⟩
  · exact .inl h4
  · exact .inr ⟨b, off, ha, fun j hj => cell_grown (hc j hj) hg (hn b off ha)⟩
theorem _root_.Go.Proofs.YtipoielcmaegaaaGreatDoor.KeysAt.keptG {w w' : World} {a : Option Addr} {n c gr : Nat} {K : List KeyV} (h : KeysAt w a n c K) (hg : w.grownBy w' (some gr)) (hn : NotInG a gr) : KeysAt w' a n c K := by
  obtain ⟨h1, h2, h3, h5, h4⟩ := h
  refine ⟨h1, h2, h3, h5, ?_⟩
  rcases h4 with h4 | ⟨b, off, ha, hc⟩
  · exact .inl h4
  · exact .inr ⟨b, off, ha, fun j hj i v hv => cell_grown (hc j hj i v hv) hg (hn b off ha)⟩
theorem At1.tailG {w : World} {b o n c x : Nat} {T : List Nat} (h : At1 N w (some ⟨b, o, none⟩) n c (x :: T)) (_ : c ≠ 1) : At1 N w (some ⟨b, o + 1, none⟩) (n - 1) (c - 1) T := by
  have hl := h.1
  simp at hl
  refine ⟨by omega, by have := h.2.1; omega, by have := h.2.2.1; omega, .inr ⟨b, o + 1, rfl, fun j hj => ?_⟩⟩
  have := h.cell (j + 1) (by omega)
  rw [show o + 1 + j = o + (j + 1) from by omega, this]
  simp
theorem At1.lastG {w : World} {b o n x : Nat} {T : List Nat} (h : At1 N w (some ⟨b, o, none⟩) n 1 (x :: T)) : T = [] ∧ n = 1 := by
  have hl := h.1
  have h2 := h.2.1
  simp at hl
  have : T.length = 0 := by omega
  exact ⟨List.length_eq_zero_iff.1 this, by omega⟩
theorem grown_below {w w' : World} (h : Below w.heap.size w w') (gr : Option Nat) : w.grownBy w' gr := ⟨h.os, h.tape, h.output, h.size, fun k hk _ => h.block k hk⟩
theorem grown_set (w : World) (g p : Nat) (v : Value) : w.grownBy (w.setCell ⟨g, p, none⟩ v) (some g) :=
  ⟨rfl, rfl, rfl, by simp [World.setCell], fun k _ hn => Below.heap_setCell _ _ _ _ (by intro e; apply hn; simp only at e; rw [e])⟩

/-- The row, as far as it is filled. -/
def fillG (R M : List Nat) (i j : Nat) : List Nat := R.take i ++ (M.take j ++ R.drop (i + j))
theorem fillG_length {R M : List Nat} {i j : Nat} (h : i + M.length ≤ R.length) (hj : j ≤ M.length) : (fillG R M i j).length = R.length := by
  unfold fillG; simp; omega
theorem fillG_zero (R M : List Nat) (i : Nat) : fillG R M i 0 = R := by unfold fillG; simp
theorem fillG_step {R M : List Nat} {i j x : Nat} {T : List Nat} (h : i + M.length ≤ R.length) (hj : j < M.length) (hd : M.drop j = x :: T) : (fillG R M i j).set (i + j) x = fillG R M i (j + 1) := by
  unfold fillG
  have hx : M[j] = x := by
    have := List.drop_eq_getElem_cons hj
    rw [hd] at this
    exact (List.cons.inj this).1.symm
  rw [List.set_append_right _ _ (by simp; omega), List.length_take, show i + j - min i R.length = j from by omega, List.set_append_right _ _ (by simp; omega), List.length_take,
    show j - min j M.length = 0 from by omega, List.take_succ_eq_append_getElem hj, hx]
  rw [List.drop_eq_getElem_cons (show i + j < R.length by omega), List.set_cons_zero]
  simp [Nat.add_assoc]
theorem drop_nextG {M T : List Nat} {j x : Nat} (hd : M.drop j = x :: T) : M.drop (j + 1) = T := by
  rw [← List.drop_drop, hd]; rfl
theorem own_frozenN {w : World} {base g n c : Nat} {U : List Nat} (h : Own1 N 3 w base (.slice (some ⟨g, 0, none⟩) n c) U) (hn : 0 < n) (j : Nat) : w.frozen? ⟨g, j, none⟩ = false := by
  obtain ⟨g', hg, _, _, _, hf⟩ := h.row hn
  cases hg
  exact hf j
theorem Own1.drewG {w : World} {base : Nat} {v : Value} {L : List Nat} (h : Own1 N 3 w base v L) (n : Nat) : Own1 N 3 (w.drewN n) base v L := h
theorem belowG (w : World) (n : Nat) : Below w.heap.size w (w.drewN n) := below_drewK (Below.refl _ _) n

/-- What comparing places wants of a world. -/
structure Ctx (w : World) (gr g : Nat) (ak : Option Addr) (nk ck : Nat) (K : List KeyV) : Prop where
  keys : KeysAt w ak nk ck K
  cell : w.cell? ⟨g, 0, none⟩ = some (.slice ak nk ck)
  ne : g ≠ gr
  apart : NotInG ak gr
theorem Ctx.kept {w w' : World} {gr g : Nat} {ak : Option Addr} {nk ck : Nat} {K : List KeyV} (h : Ctx w gr g ak nk ck K) (hg : w.grownBy w' (some gr)) : Ctx w' gr g ak nk ck K :=
  ⟨h.keys.keptG hg h.apart, cell_grown h.cell hg h.ne, h.ne, h.apart⟩

end Go.Proofs.YtipoielcmaegaaaGreatDoor.Pl

namespace Go.Proofs.YtipoielcmaegaaaGreatDoor.Pl

/-- How far one more place has come: what stands ahead of k is as it was, what stood behind it has moved on by one. -/
structure InsN (K : List KeyV) (S : List Nat) (x : Nat) (k : Nat) (R : List Nat) : Prop where
  le : k ≤ S.length
  len : R.length = S.length + 1
  head : R.take k = S.take k
  rest : R.drop (k + 1) = S.drop k
  gt : ∀ b ∈ S.drop k, 0 < keyF (kOf K b) (kOf K x)

theorem InsN.start (K : List KeyV) (S : List Nat) (x y : Nat) : InsN K S x S.length (S ++ [y]) :=
  ⟨Nat.le_refl _, by simp, by simp, by simp, fun b hb => by simp at hb⟩
theorem getD_takeN {L : List Nat} {i k : Nat} (h : i < k) : (L.take k).getD i 0 = L.getD i 0 := by
  simp [List.getD_eq_getElem?_getD, h]
theorem InsN.read {K : List KeyV} {S R : List Nat} {x k : Nat} (h : InsN K S x k R) (hk : 0 < k) : R.getD (k - 1) 0 = S.getD (k - 1) 0 := by
  have h1 : (R.take k).getD (k - 1) 0 = (S.take k).getD (k - 1) 0 := by rw [h.head]
  rwa [getD_takeN (by omega), getD_takeN (by omega)] at h1
theorem drop_getDN {L : List Nat} {k : Nat} (h : k < L.length) : L.drop k = L.getD k 0 :: L.drop (k + 1) := by
  rw [List.drop_eq_getElem_cons h]
  simp [h]
theorem InsN.step {K : List KeyV} {S R : List Nat} {x k : Nat} (h : InsN K S x k R) (hk : 0 < k) (hc : 0 < keyF (kOf K (S.getD (k - 1) 0)) (kOf K x)) : InsN K S x (k - 1) (R.set k (S.getD (k - 1) 0)) := by
  have hle := h.le
  have hlen := h.len
  have ed : S.drop (k - 1) = S.getD (k - 1) 0 :: S.drop k := by
    rw [drop_getDN (L := S) (k := k - 1) (by omega), show k - 1 + 1 = k from by omega]
  refine ⟨by omega, by rw [List.length_set]; exact hlen, ?_, ?_, fun b hb => ?_⟩
  · rw [List.take_set_of_le (by omega)]
    have h1 : (R.take k).take (k - 1) = (S.take k).take (k - 1) := by rw [h.head]
    rwa [List.take_take, List.take_take, show min (k - 1) k = k - 1 from by omega] at h1
  · rw [show k - 1 + 1 = k from by omega]
    have e : (R.set k (S.getD (k - 1) 0)).drop k = S.getD (k - 1) 0 :: R.drop (k + 1) := by
      rw [List.set_eq_take_append_cons_drop, if_pos (by omega), List.drop_append]
      have : (R.take k).length = k := by simp; omega
      rw [List.drop_eq_nil_of_le (by omega), this, Nat.sub_self]
      rfl
    rw [e, h.rest, ed]
  · rw [ed] at hb
    rcases List.mem_cons.1 hb with rfl | hb
    · exact hc
    · exact h.gt b hb
/-- Put where it belongs: in order, and the places up to it. -/
theorem InsN.next {K : List KeyV} {S R : List Nat} {k i : Nat} (h : InsN K S i k R) (hu : UpG (plB K) S) (hp : S.Perm (List.range i)) (hc : k = 0 ∨ keyF (kOf K (S.getD (k - 1) 0)) (kOf K i) ≤ 0) :
    UpG (plB K) (R.set k i) ∧ (R.set k i).Perm (List.range (i + 1)) := by
  have hle := h.le
  have hlen := h.len
  have e : R.set k i = S.take k ++ i :: S.drop k := by
    rw [List.set_eq_take_append_cons_drop, if_pos (by omega), h.head, h.rest]
  have hlt : ∀ b ∈ S, b < i := fun b hb => by simpa using hp.mem_iff.1 hb
  have hs : UpG (plB K) (S.take k ++ S.drop k) := by rw [List.take_append_drop]; exact hu
  obtain ⟨h1, h2, h3⟩ := List.pairwise_append.1 hs
  rw [e]
  refine ⟨List.pairwise_append.2 ⟨h1, List.pairwise_cons.2 ⟨fun b hb => ?_, h2⟩, fun a ha b hb => ?_⟩, ?_⟩
  · have g := h.gt b hb
    have an := keyF_anti (kOf K i) (kOf K b)
    unfold plB
    simp only [Bool.or_eq_true, Bool.and_eq_true, decide_eq_true_eq]
    omega
  · rcases List.mem_cons.1 hb with rfl | hb
    · rcases hc with hc | hc
      · subst hc; simp at ha
      · have hk : 0 < k := by
          rcases Nat.eq_zero_or_pos k with h0 | h0
          · subst h0; simp at ha
          · exact h0
        have hkl : k - 1 < S.length := by omega
        have eg : S.getD (k - 1) 0 = S[k - 1] := by simp [hkl]
        have hm : S.getD (k - 1) 0 ∈ S := by rw [eg]; exact List.getElem_mem _
        have hy : plB K (S.getD (k - 1) 0) b = true := by rw [plB_lt K (hlt _ hm)]; simpa using hc
        have et : S.take k = S.take (k - 1) ++ [S.getD (k - 1) 0] := by
          have := List.take_succ_eq_append_getElem hkl
          rw [show k - 1 + 1 = k from by omega] at this
          rw [this, eg]
        rw [et] at h1 ha
        rcases List.mem_append.1 ha with ha | ha
        · exact plB_trans K _ _ _ ((List.pairwise_append.1 h1).2.2 a ha _ (by simp)) hy
        · simp only [List.mem_singleton] at ha
          rw [ha]; exact hy
    · exact h3 a ha b hb
  · rw [List.range_succ]
    refine List.perm_middle.trans ?_
    rw [List.take_append_drop]
    exact (List.Perm.cons i hp).trans (List.perm_append_singleton i _).symm
#print axioms InsN.next
#print axioms InsN.step
end Go.Proofs.YtipoielcmaegaaaGreatDoor.Pl

namespace Go.Proofs.YtipoielcmaegaaaGreatDoor.Pl
open Go.RowKit

/-- 'min(x, y)'. -/
theorem wl_minI {P : Program} {w : World} {ops : Array Oper} {rest : List Oper} {o : Oper} {a : Act} {Q : Exit → Act → World → Prop} (hgd : o.guard = none) (x y : Operand) (ats : Array TypeId)
    (ho : o.op = .call { callee := .builtin .min, args := #[x, y], argTypes := ats }) (X Y Z : Int) (hx : a.eval x = .int .i64 X) (hy : a.eval y = .int .i64 Y) (hz : Z = if Y < X then Y else X)
    (h : wpList P ops Q rest (a.put o.dst (.int .i64 Z)) w) : wpList P ops Q (o :: rest) a w := by
  refine wpList_ok hgd (v := .int .i64 Z) ?_ h
  subst hz
  obtain ⟨dst, op, ty, pos, after, guard⟩ := o
  subst ho
  simp only [BigFrame.execOp_builtin, BigFrame.builtin_min]
  simp [hx, hy, Builtin.min_, Builtin.min2]

theorem ownN_empty (w : World) : Own1 N 3 (w.alloc (.cells #[] 3)) w.heap.size (.slice (some ⟨w.heap.size, 0, none⟩) 0 0) [] :=
  World.ownsRow_lit w #[] 0 (Nat.le_refl _) (Nat.zero_le _) rfl
theorem oneN (x : Nat) : (N x).oneCell' = true := rfl

theorem Own1.part {w : World} {base g n c : Nat} {L : List Nat} (h : Own1 N 3 w base (.slice (some ⟨g, 0, none⟩) n c) L) (f m d : Nat) (hf : f + m ≤ n) (hm : m ≤ d) (hd : d ≤ 9223372036854775807) :
    At1 N w (some ⟨g, f, none⟩) m d ((L.drop f).take m) := by
  have h1 := h.at1
  have hl := h1.1
  refine ⟨by simp; omega, hm, hd, .inr ⟨g, f, rfl, fun j hj => ?_⟩⟩
  have := h1.cell (f + j) (by omega)
  rw [Nat.zero_add] at this
  rw [this]
  congr 2
  simp [List.getD_eq_getElem?_getD, hj]

/-- The two rows that sorting goes between. -/
def TwoN (base n : Nat) (W : World) (aL aR : Option Addr) (cL cR : Nat) (L R : List Nat) : Prop :=
  Own1 N 3 W base (.slice aL n cL) L ∧ Own1 N 3 W base (.slice aR n cR) R ∧ (0 < n → aL ≠ aR)

theorem ctx_of {w W : World} {gr g n ck : Nat} {ak : Option Addr} {K : List KeyV} (hK : KeysAt w ak n ck K) (hg : w.cell? ⟨g, 0, none⟩ = some (.slice ak n ck)) (hb : Below w.heap.size w W) (hr : w.heap.size ≤ gr) (hn : 0 < n) : Ctx W gr g ak n ck K := by
  have hlt : g < w.heap.size := World.block_lt_of_cell? _ _ hg
  refine ⟨hK.below hb, (hb.cell hlt).trans hg, by omega, fun b off h => ?_⟩
  subst h
  have h0 := hK.at_ 0 hn 0
  have hl := hK.len32 hn
  have hs : (keyL (kOf K 0)).length = 34 := keyL_length hl
  obtain ⟨v, hv⟩ : ∃ v, (keyL (kOf K 0))[0]? = some v := ⟨_, List.getElem?_eq_getElem (by omega)⟩
  have h3 : b < w.heap.size := World.block_lt_of_cell? _ _ (h0 v hv)
  omega

end Go.Proofs.YtipoielcmaegaaaGreatDoor.Pl

namespace Go.Proofs.YtipoielcmaegaaaGreatDoor.Pl
open Go.RowKit

theorem litN (w : World) (x : Nat) (T : TypeId) : At1 N (w.alloc (.cells #[N x] T)) (some ⟨w.heap.size, 0, none⟩) 1 1 [x] :=
  ⟨rfl, Nat.le_refl _, by omega, .inr ⟨_, 0, rfl, fun j hj => by
    obtain rfl : j = 0 := by omega
    rw [World.cell?_alloc_at _ _ _ _ rfl]
    rfl⟩⟩
theorem moreN {base : Nat} {w w1 w' : World} {v : Value} {a : Option Addr} {n c : Nat} {L : List Nat} (h : Own1 N 3 w' base (.slice a n c) L) (hp : 0 < n) (hb : Below base w w1) (hg : w1.grownBy w' v.ownBlock) (hv : ∀ k, v.ownBlock = some k → base ≤ k) (hs : base ≤ w1.heap.size) :
    ∃ g, a = some ⟨g, 0, none⟩ ∧ base ≤ g ∧ Below base w w' := by
  obtain ⟨g, rfl, hgb, _⟩ := h.row hp
  exact ⟨g, rfl, hgb, hb.grown hg hs hv⟩
theorem ownN_cell {w : World} {base g n c : Nat} {L : List Nat} (h : Own1 N 3 w base (.slice (some ⟨g, 0, none⟩) n c) L) {j : Nat} (hj : j < n) : w.cell? ⟨g, j, none⟩ = some (.int .i64 ((L.getD j 0 : Nat) : Int)) := by
  have := h.at1.cell j hj
  rwa [Nat.zero_add] at this
theorem ownN_put {w0 w : World} {base g n c : Nat} {L : List Nat} (hb : Below base w0 w) (hs : base ≤ w.heap.size) (hg : base ≤ g) (h : Own1 N 3 w base (.slice (some ⟨g, 0, none⟩) n c) L) (j x : Nat) :
    Below base w0 (w.setCell ⟨g, j, none⟩ (.int .i64 (x : Int))) ∧ Own1 N 3 (w.setCell ⟨g, j, none⟩ (.int .i64 (x : Int))) base (.slice (some ⟨g, 0, none⟩) n c) (L.set j x) :=
  ⟨hb.grown (grown_set w g j _) hs (fun k hk => by cases hk; exact hg), h.store h.len j x⟩

set_option maxRecDepth 100000 in
set_option maxHeartbeats 4000000 in
theorem refKeysSort_any (a : Option Addr) (n c : Nat) (K : List KeyV) (w : World) (hb : KeysAt w a n c K) (hl : n ≤ 1000000000) :
    Calls Tryz.prog 20 #[.slice a n c] w fun e w' => ∃ a1 c1 L, e = .returned (.slice a1 n c1) ∧ Own1 N 3 w' w.heap.size (.slice a1 n c1) L ∧ L.Perm (List.range n) ∧ UpG (plB K) L ∧ Below w.heap.size w w' := by
  have HA := Lib.hid hb
  have hnI : (n : Int) ≤ 1000000000 := by omega
  have hn0 : (0 : Int) ≤ (n : Int) := by omega
  have HO := Lib.hid (show Own1 N 3 w w.heap.size (.slice none 0 0) [] from Own1.nil)
  have HUP := Lib.hid (show UpG (plB K) [] ∧ ([] : List Nat).Perm (List.range 0) from ⟨List.Pairwise.nil, List.Perm.refl _⟩)
  clear hb hl
  go_enter Tryz.func20, Tryz.ntmps20
  go_wp2
  go_loopg [3, 4] n (fun g v3 v4 W => ∃ (i : Nat) (S : List Nat) (aS : Option Addr) (cS : Nat), v3 = .slice aS i cS ∧ v4 = .int .i64 i ∧ g + i = n ∧ Below w.heap.size w W ∧ Hid (Own1 N 3 W w.heap.size (.slice aS i cS) S) ∧ Hid (UpG (plB K) S ∧ S.Perm (List.range i)))
  case atStart => exact ⟨0, [], none, 0, rfl, rfl, rfl, Below.refl _ _, HO, HUP⟩
  case round =>
    clear HO HUP
    obtain ⟨i, S, aS, cS, rfl, rfl, hg, hbw, HOW, HUP⟩ := hrel
    have HG := Lib.hid hg
    have hi0 : (0 : Int) ≤ (i : Int) := by omega
    have hiI : (i : Int) ≤ (n : Int) := by omega
    by_cases hi : (i : Int) < (n : Int)
    · obtain ⟨ba, oa, rfl⟩ := HA.out.some_ (by omega)
      have HIN := Lib.hid (show i < n by omega)
      have HX := Lib.hid (HA.out.len32 HIN.out)
      have HSL := Lib.hid (show S.length = i from HOW.out.len)
      have HBS := Lib.hid hbw.size
      have HOWA := Lib.hid (HOW.out.alloc (.cells #[N i] 3))
      have HLT := Lib.hid (litN wr i 3)
      have HBW := Lib.hid (hbw.alloc HBS.out (.cells #[N i] 3))
      have H48 := Lib.hid (show (S.length + 1) * (8 + 1) ≤ 140737488355328 by rw [HSL.out]; have := HIN.out; omega)
      have HBA := Lib.hid (show w.heap.size ≤ (wr.alloc (.cells #[N i] 3)).heap.size by have := HBS.out; simp; omega)
      have hSL1 : i + 1 = S.length + 1 := by rw [HSL.out]
      have HSL1 := Lib.hid hSL1
      clear hg hSL1
      go_wp2_with (at_builtin; go_must (refine app1 N oneN Tryz.underlying57 infoN rfl rfl (.tmp 14) (.tmp 16) rfl w.heap.size _ S rfl HOWA.out _ 1 1 [i] rfl HLT.out H48.out HBA.out (i + 1) HSL1.out ?_); intro a1 cv w1 hown1 hgr1)
      obtain ⟨g, rfl, hgb, hbw1⟩ := moreN hown1 (by omega) HBW.out hgr1 (fun k hk => (HOW.out.lt k hk).1) HBA.out
      have HOW1 := Lib.hid hown1
      have HB1 := Lib.hid hbw1
      have HGB := Lib.hid hgb
      have HI := Lib.hid (show InsN K S i i (S ++ [i]) from by have := InsN.start K S i i; rwa [HSL.out] at this)
      clear hown1 hgr1 hbw1 hgb hbw HOW HOWA HLT HBW H48 HBA
      go_loopg [5] i (fun g' v5 W => ∃ (k : Nat) (R : List Nat), v5 = .int .i64 k ∧ Hid (g' = k) ∧ (k : Int) ≤ (i : Int) ∧ Hid (Below w.heap.size w W) ∧ Hid (Own1 N 3 W w.heap.size (.slice (some ⟨g, 0, none⟩) (i + 1) cv) R) ∧ Hid (InsN K S i k R))
      case atStart => exact ⟨i, S ++ [i], rfl, Lib.hid rfl, by omega, HB1, HOW1, HI⟩
      case round =>
        clear HB1 HOW1 HI
        obtain ⟨k, R, rfl, HG2, hkI, hbw, HOW, HINS⟩ := hrel
        have HK := Lib.hid hkI
        by_cases hk : k = 0
        · subst hk
          have HF := Lib.hid (HINS.out.next HUP.out.1 HUP.out.2 (.inl rfl))
          go_wp2
          go_quiet (fail)
          have hbd := below_drewN hbw.out nq
          have HOD := Lib.hid (HOW.out.drewG nq)
          clear hbw
          generalize wr.drewN nq = w2 at HOD hbd ⊢
          have hfz := own_frozenN HOD.out (by omega) 0
          have hce := ownN_cell HOD.out (show 0 < i + 1 by omega)
          obtain ⟨old, hold⟩ : ∃ old, old = R.getD 0 0 := ⟨_, rfl⟩
          rw [← hold] at hce
          have HP := Lib.hid (ownN_put hbd hbd.size HGB.out HOD.out 0 i)
          clear hold hbd
          go_wp2
          go_roundg (n - (i + 1))
          case measure => have := HG.out; have := HIN.out; omega
          case rel => exact ⟨i + 1, R.set 0 i, some ⟨g, 0, none⟩, cv, rfl, by go_num, by have := HIN.out; omega, HP.out.1, Lib.hid HP.out.2, HF⟩
        · obtain ⟨y, hy⟩ : ∃ y, y = S.getD (k - 1) 0 := ⟨_, rfl⟩
          have HYE := Lib.hid hy
          have hyn : y < n := by
            have hm : y ∈ S := by
              have hkl : k - 1 < S.length := by rw [HSL.out]; omega
              have eg : S.getD (k - 1) 0 = S[k - 1] := by simp [hkl]
              rw [hy, eg]; exact List.getElem_mem _
            have := HUP.out.2.mem_iff.1 hm
            simp at this
            omega
          have HY := Lib.hid (HA.out.len32 hyn)
          have HKD := Lib.hid (HA.out.below (below_drewK hbw.out 1))
          have HCY := Lib.hid (show wr.drew.rangeAt ba (oa + y * 34) (keyL (kOf K y)) from HKD.out.at_ y hyn)
          have HCX := Lib.hid (show wr.drew.rangeAt ba (oa + i * 34) (keyL (kOf K i)) from HKD.out.at_ i HIN.out)
          have HOD := Lib.hid (show Own1 N 3 wr.drew w.heap.size (.slice (some ⟨g, 0, none⟩) (i + 1) cv) R from HOW.out)
          have hcy : wr.drew.cell? ⟨g, k - 1, none⟩ = some (.int .i64 (y : Int)) := by
            have := ownN_cell HOD.out (show k - 1 < i + 1 by omega)
            rwa [HINS.out.read (by omega), ← hy] at this
          have hbd : Below w.heap.size w wr.drew := below_drewK hbw.out 1
          have hy0 : (0 : Int) ≤ (y : Int) := by omega
          have hyI : (y : Int) < (n : Int) := by omega
          have k0 : (0 : Int) < (k : Int) := by omega
          have k6 : 0 < k := by omega
          have k1 : IntKind.i64.wrap ((k : Int) - 1) = (k : Int) - 1 := IntWalk.i64_in _ (by omega)
          have k2 : 0 ≤ (k : Int) - 1 := by omega
          have k3 : ((k : Int) - 1).toNat = k - 1 := by omega
          have k4 : (k : Int) - 1 < (i : Int) + 1 := by omega
          have k7 : (1 : Int) ≤ (k : Int) := by omega
          have k5 : k - 1 < i + 1 := by omega
          have HKP := Lib.hid (show 0 < k by omega)
          clear hk hy hbw hyn
          go_wp2
          refine wp_region_still_tail 15 (by kernel_rfl) (by kernel_rfl) ?_
          simp only [List.take_succ_cons, List.take_zero, List.drop_succ_cons, List.drop_zero]
          still_step
          still_step
          still_step
          still_step
          still_step
          still_step
          still_step
          still_step
          still_step
          still_step
          refine still_w (by rfl) (exec_loadKey _ rfl _ _ _ HY.out rfl HCY.out) ?_
          simp only [Act.put, List.setIfInBounds_toArray, List.set_cons_zero, List.set_cons_succ]
          still_step
          still_step
          still_step
          refine still_w (by rfl) (exec_loadKey _ rfl _ _ _ HX.out rfl HCX.out) ?_
          simp only [Act.put, List.setIfInBounds_toArray, List.set_cons_zero, List.set_cons_succ]
          refine wpStill_nil ?_
          change wpList _ _ _ _ _ wr.drew
          clear k1 k3
          generalize wr.drew = w2 at HCY HCX HKD HOD hcy hbd ⊢
          obtain ⟨z, hz⟩ : ∃ z, z = keyF (kOf K y) (kOf K i) := ⟨_, rfl⟩
          have HZ := Lib.hid hz
          have HC := fun W => Lib.hid (show Calls Tryz.prog 23 #[.agg (keyC (kOf K y)), .agg (keyC (kOf K i))] W fun e w' => e = .returned (.int .i64 z) ∧ Below W.heap.size W w' by
            have := refKeys_any (kOf K y) (kOf K i) W HY.out HX.out
            unfold KeyIs at this
            rwa [← hz] at this)
          clear hz hcy
          by_cases hc : 0 < z
          · have HIS := Lib.hid (show InsN K S i (k - 1) (R.set k y) by have h := HINS.out.step HKP.out (by rw [← HYE.out, ← HZ.out]; exact hc); rwa [← HYE.out] at h)
            have hc1 : 1 ≤ z := by omega
            go_wp2_with (go_at_call 23; go_must (refine (HC _).out.mono ?_); rintro e w3 ⟨rfl, hb3⟩; have HO3 := Lib.hid (HOD.out.below hb3); have hcy3 := ownN_cell HO3.out k5; rw [HINS.out.read HKP.out, ← HYE.out] at hcy3; have hfz := own_frozenN HO3.out (by omega) k; have hck := ownN_cell HO3.out (show k < i + 1 by omega))
            have HP := Lib.hid (ownN_put (hbd.trans (hb3.mono hbd.size)) (hbd.trans (hb3.mono hbd.size)).size HGB.out HO3.out k y)
            go_roundg (k - 1)
            case measure => have := HG2.out; have := HKP.out; omega
            case rel => exact ⟨k - 1, R.set k y, by congr 1; have := HKP.out; omega, Lib.hid rfl, by have := HK.out; omega, Lib.hid HP.out.1, Lib.hid HP.out.2, HIS⟩
          · have HF := Lib.hid (HINS.out.next HUP.out.1 HUP.out.2 (.inr (by rw [← HYE.out, ← HZ.out]; omega)))
            have hcf : decide (0 < z) = false := decide_eq_false hc
            clear hc
            go_wp2_with (go_at_call 23; go_must (refine (HC _).out.mono ?_); rintro e w3 ⟨rfl, hb3⟩; have HO3 := Lib.hid (HOD.out.below hb3); have hfz := own_frozenN HO3.out (by omega) k; have hck := ownN_cell HO3.out (show k < i + 1 by omega))
            have HP := Lib.hid (ownN_put (hbd.trans (hb3.mono hbd.size)) (hbd.trans (hb3.mono hbd.size)).size HGB.out HO3.out k i)
            go_roundg (n - (i + 1))
            case measure => have := HG.out; have := HIN.out; omega
            case rel => exact ⟨i + 1, R.set k i, some ⟨g, 0, none⟩, cv, rfl, by go_num, by have := HIN.out; omega, HP.out.1, Lib.hid HP.out.2, HF⟩
    · have hin : i = n := by omega
      subst hin
      clear hg
      go_wp2
      go_ret
      exact ⟨_, _, rfl, S, HOW.out, HUP.out.2, HUP.out.1, hbw⟩
#print axioms refKeysSort_any
end Go.Proofs.YtipoielcmaegaaaGreatDoor.Pl
