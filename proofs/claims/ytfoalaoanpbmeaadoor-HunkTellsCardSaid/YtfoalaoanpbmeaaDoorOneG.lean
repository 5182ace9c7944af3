/-
  Slices of elements of one cell, told by data of any type (strings, bools, ints): one that can be read, one that the call made itself.
-/
import Derived.Test.YtfoalaoanpbmeaaDoorBytes
import Derived.WalkKit
import Derived.WalkSpells
import Derived.Laws.AppendOwnNone
import Derived.Laws.OwnMore
import Derived.Deep.LoopGhost
import Derived.Deep.QuietTactic
import Derived.BigQuiet
import Derived.WalkSmall
namespace Go.Proofs.YtfoalaoanpbmeaaDoor
open Go.RowKit

section
variable {α : Type} [Inhabited α] (mk : α → Value) (E : TypeId)

/-- A slice value reads as these. -/
def At1 (w : World) (a : Option Addr) (n c : Nat) (L : List α) : Prop :=
  L.length = n ∧ n ≤ c ∧ c ≤ 9223372036854775807 ∧ ((n = 0 ∧ c = 0) ∨ ∃ b off, a = some ⟨b, off, none⟩ ∧ ∀ j, j < n → w.cell? ⟨b, off + j, none⟩ = some (mk (L.getD j default)))
/-- A value that owns these, in memory from a block on. -/
def Own1 (w : World) (base : Nat) (v : Value) (L : List α) : Prop := w.ownsRow base E 1 v L.length (L.map mk)
end

section
variable {α : Type} {mk : α → Value} {E : TypeId} {w w' : World} {a : Option Addr} {n c base : Nat} {L : List α} {v : Value}

theorem At1.nil [Inhabited α] : At1 mk w none 0 0 [] := ⟨rfl, Nat.le_refl _, by omega, .inl ⟨rfl, rfl⟩⟩
theorem At1.below [Inhabited α] (h : At1 mk w a n c L) (hb : Below w.heap.size w w') : At1 mk w' a n c L := by
  obtain ⟨h1, h2, h3, h4⟩ := h
  refine ⟨h1, h2, h3, ?_⟩
  rcases h4 with h4 | ⟨b, off, ha, hc⟩
  · exact .inl h4
  · exact .inr ⟨b, off, ha, fun j hj => (hb.cell (World.block_lt_of_cell? _ _ (hc j hj))).trans (hc j hj)⟩
theorem At1.some_ [Inhabited α] (h : At1 mk w a n c L) (hn : 0 < n) : ∃ b off, a = some ⟨b, off, none⟩ := by
  rcases h.2.2.2 with ⟨h0, _⟩ | ⟨b, off, ha, _⟩
  · omega
  · exact ⟨b, off, ha⟩
theorem At1.cell [Inhabited α] {b off : Nat} (h : At1 mk w (some ⟨b, off, none⟩) n c L) (j : Nat) (hj : j < n) : w.cell? ⟨b, off + j, none⟩ = some (mk (L.getD j default)) := by
  rcases h.2.2.2 with ⟨h0, _⟩ | ⟨b', off', ha, hc⟩
  · omega
  · simp only [Option.some.injEq, Addr.mk.injEq, and_true] at ha
    obtain ⟨rfl, rfl⟩ := ha
    exact hc j hj

theorem Own1.nil : Own1 mk E w base (.slice none 0 0) [] := World.ownsRow_nil _ _ _ _
theorem Own1.at1_ [Inhabited α] (h : Own1 mk E w base v L) : ∃ a c, v = .slice a L.length c ∧ At1 mk w a L.length c L := by
  have h0 := h
  obtain ⟨h1, h2⟩ := h
  rcases h2 with ⟨rfl, hn⟩ | ⟨g, cap, cur, rfl, hb, hg, hn, hm, hs, ht⟩
  · have : L = [] := List.length_eq_zero_iff.1 hn
    subst this
    exact ⟨none, 0, rfl, At1.nil⟩
  · refine ⟨_, _, rfl, rfl, hn, by unfold maxLen at hm; omega, .inr ⟨g, 0, rfl, fun j hj => ?_⟩⟩
    have := h0.cells (g := g) rfl j (mk (L.getD j default)) (by rw [List.getElem?_map]; simp [hj])
    rw [Addr.add_lit] at this
    exact this
theorem Own1.at1 [Inhabited α] (h : Own1 mk E w base (.slice a n c) L) : At1 mk w a n c L := by
  obtain ⟨a', c', hv, hb⟩ := h.at1_
  simp only [Value.slice.injEq] at hv
  obtain ⟨rfl, rfl, rfl⟩ := hv
  exact hb
theorem Own1.alloc (h : Own1 mk E w base v L) (o : Obj) : Own1 mk E (w.alloc o) base v L := World.ownsRow.alloc h o
theorem Own1.lt (h : Own1 mk E w base v L) : ∀ k, v.ownBlock = some k → base ≤ k ∧ k < w.heap.size := World.ownsRow.lt h
theorem Own1.mono {base' : Nat} (h : Own1 mk E w base v L) (hb : base' ≤ base) : Own1 mk E w base' v L := by
  obtain ⟨h1, h2⟩ := h
  refine ⟨h1, ?_⟩
  rcases h2 with h2 | ⟨g, cap, cur, hv, hg, r⟩
  · exact .inl h2
  · exact .inr ⟨g, cap, cur, hv, by omega, r⟩
theorem Own1.below (h : Own1 mk E w base v L) (hb : Below w.heap.size w w') : Own1 mk E w' base v L := by
  obtain ⟨h1, h2⟩ := h
  refine ⟨h1, ?_⟩
  rcases h2 with h2 | ⟨g, cap, cur, hv, hg, hh, r⟩
  · exact .inl h2
  · refine .inr ⟨g, cap, cur, hv, hg, ?_, r⟩
    have hlt : g < w.heap.size := by
      rcases Nat.lt_or_ge g w.heap.size with h | h
      · exact h
      · rw [Array.getElem?_eq_none h] at hh; cases hh
    rw [hb.block g hlt]; exact hh
theorem Own1.kept {row : Option Nat} (h : Own1 mk E w base v L) (hg : w.grownBy w' row) (hne : v.ownBlock = none ∨ v.ownBlock ≠ row) : Own1 mk E w' base v L := World.ownsRow.kept h hg hne
theorem Own1.row [Inhabited α] (h : Own1 mk E w base (.slice a n c) L) (hn : 0 < n) : ∃ g, a = some ⟨g, 0, none⟩ ∧ base ≤ g ∧ g < w.heap.size ∧ L.length = n ∧ (∀ j, w.frozen? ⟨g, j, none⟩ = false) := by
  have h0 := h
  obtain ⟨h1, h2⟩ := h
  rcases h2 with ⟨hv, hz⟩ | ⟨g, cap, cur, hv, hb, hg, hle, hm, hs, ht⟩
  · simp only [Value.slice.injEq] at hv; omega
  · simp only [Value.slice.injEq] at hv
    obtain ⟨rfl, rfl, rfl⟩ := hv
    have hlt : g < w.heap.size := by
      rcases Nat.lt_or_ge g w.heap.size with h | h
      · exact h
      · rw [Array.getElem?_eq_none h] at hg; cases hg
    exact ⟨g, rfl, hb, hlt, rfl, fun j => World.ownsRow.frozenAt h0 j⟩
theorem Own1.store {g : Nat} (h : Own1 mk E w base (.slice (some ⟨g, 0, none⟩) n c) L) (hn : L.length = n) (j : Nat) (x : α) : Own1 mk E (w.setCell ⟨g, j, none⟩ (mk x)) base (.slice (some ⟨g, 0, none⟩) n c) (L.set j x) := by
  subst hn
  have := (World.ownsRow.stored h j (mk x)).1
  unfold Own1
  rw [List.length_set, List.map_set]
  exact this
theorem Own1.len [Inhabited α] (h : Own1 mk E w base (.slice a n c) L) : L.length = n := h.at1.1
end

/-- An append to what is the call's own, of one cell each. -/
theorem app1 {α : Type} [Inhabited α] (mk : α → Value) (h1c : ∀ x, (mk x).oneCell' = true) {T E : TypeId} {z : Value} {by_ : Nat} (hU : Tryd.prog.underlying T = some (.slice E)) (hI : (Tryd.prog.info? E).map (fun i => (i.zero, i.size, i.bytes)) = some (some z, 1, by_)) (hz : z.cells.size = 1)
    {w : World} {ops : Array Oper} {rest : List Oper} {o : Oper} {a : Act} {Q : Exit → Act → World → Prop} (hgd : o.guard = none) (s x : Operand)
    (ho : o.op = .call { callee := .builtin .append, args := #[s, x], argTypes := #[T, T] })
    (base : Nat) (v : Value) (l : List α) (hs : a.eval s = v) (hown : Own1 mk E w base v l)
    (sa : Option Addr) (m c : Nat) (src : List α) (hx : a.eval x = .slice sa m c) (hsrc : At1 mk w sa m c src)
    (h48 : (l.length + m) * (by_ + 1) ≤ 140737488355328) (hbase : base ≤ w.heap.size) (r : Nat) (hr : r = l.length + m)
    (h : ∀ a' c' w', Own1 mk E w' base (.slice a' r c') (l ++ src) → w.grownBy w' v.ownBlock → wpList Tryd.prog ops Q rest (a.put o.dst (.slice a' r c')) w') : wpList Tryd.prog ops Q (o :: rest) a w := by
  obtain ⟨i0, hi, hz0, hz1, hz2⟩ := info_parts hI
  obtain ⟨h1, h2, h3, h4⟩ := hsrc
  have fin : ∀ v' w', Own1 mk E w' base v' (l ++ src) → w.grownBy w' v.ownBlock → wpList Tryd.prog ops Q rest (a.put o.dst v') w' := by
    intro v' w' ho hg
    obtain ⟨a', c', rfl, _⟩ := ho.at1_
    have e : (l ++ src).length = r := by rw [List.length_append, h1, hr]
    rw [e] at ho ⊢
    exact h a' c' w' ho hg
  have e48 : (l.length + m) * by_ ≤ 140737488355328 := Nat.le_trans (Nat.mul_le_mul_left _ (by omega)) h48
  have e63 : l.length + m ≤ 140737488355328 := Nat.le_trans (Nat.le_mul_of_pos_right _ (by omega)) h48
  rcases h4 with ⟨rfl, rfl⟩ | ⟨b, off, rfl, hc⟩
  · have : src = [] := List.length_eq_zero_iff.1 h1
    subst this
    cases sa with
    | none =>
      refine wpList_append_own_none hgd s x T ho base E i0 1 hU hi v l.length (l.map mk) hs hown hx ?_
      exact fin v w (by rw [List.append_nil]; exact hown) ⟨rfl, rfl, rfl, Nat.le_refl _, fun _ _ _ => rfl⟩
    | some ad =>
      refine wpList_append_own w hgd s x T ho base E i0 z 1 by_ hU hi hz0 hz1 hz2 hz (by decide) v l.length (l.map mk) hs hown
        ad 0 0 [] hx (by simp) (by simp) (by simp) (by unfold maxLen; omega) (by omega) hbase ?_
      intro v' w' h5 h6 _
      exact fin v' w' (by rw [List.append_nil]; simpa [Own1] using h5) h6
  · refine wpList_append_own w hgd s x T ho base E i0 z 1 by_ hU hi hz0 hz1 hz2 hz (by decide) v l.length (l.map mk) hs hown
      ⟨b, off, none⟩ m c (src.map mk) hx (by simp [h1]) ?_ ?_ (by unfold maxLen; omega) (by omega) hbase ?_
    · intro j u hu
      rw [List.getElem?_map] at hu
      have hj : j < src.length := by
        rcases Nat.lt_or_ge j src.length with h | h
        · exact h
        · rw [List.getElem?_eq_none h] at hu; cases hu
      have := hc j (by omega)
      simp only [List.getElem?_eq_getElem hj, Option.map_some, Option.some.injEq] at hu
      subst hu
      rw [Addr.add_lit, this]
      simp [hj]
    · intro u hu
      obtain ⟨x, _, rfl⟩ := List.mem_map.1 hu
      exact h1c x
    · intro v' w' h5 h6 _
      refine fin v' w' ?_ h6
      unfold Own1
      rw [List.length_append, List.map_append, h1]
      exact h5

/-- 'make' of so many elements of one cell. -/
theorem make1 {α : Type} (mk : α → Value) {T E : TypeId} {by_ : Nat} {z0 : α} (hU : Tryd.prog.underlying T = some (.slice E)) (hI : (Tryd.prog.info? E).map (fun i => (i.zero, i.size, i.bytes)) = some (some (mk z0), 1, by_)) (hmk : (mk z0).cells = #[mk z0])
    {w : World} {ops : Array Oper} {rest : List Oper} {o : Oper} {a : Act} {Q : Exit → Act → World → Prop} (hgd : o.guard = none) (x y : Operand) (ho : o.op = Op.makeSlice T x y)
    (n : Nat) (hx : a.eval x = .int .i64 (n : Int)) (hy : a.eval y = .int .i64 (n : Int)) (hn : n ≤ 1000000000) (hb : by_ ≤ 1000)
    (h : ∀ w', Own1 mk E w' w.heap.size (.slice (some ⟨w.heap.size, 0, none⟩) n n) (List.replicate n z0) → w.grownBy w' none → wpList Tryd.prog ops Q rest (a.put o.dst (.slice (some ⟨w.heap.size, 0, none⟩) n n)) w') : wpList Tryd.prog ops Q (o :: rest) a w := by
  obtain ⟨i0, hi, hz0, hz1, hz2⟩ := info_parts hI
  have h48 : n * by_ ≤ 1000000000 * 1000 := Nat.mul_le_mul hn hb
  refine wpList_make_full w hgd x y _ ho w.heap.size E i0 (mk z0) 1 hU hi hz0 hz1 .i64 .i64 _ _ n hx hy rfl rfl (by rw [hz2, Nat.mul_comm]; omega) (by unfold maxLen; omega) (Nat.le_refl _) ?_
  intro w' h1 h2
  refine h w' ?_ h2
  unfold Own1
  rw [List.length_replicate, List.map_replicate]
  have e : (madeCells (mk z0).cells (n * 1)).toList = List.replicate n (mk z0) := by
    rw [hmk]
    apply List.ext_getElem
    · simp [madeCells]
    · intro i h3 h4
      simp [madeCells, Nat.mod_one]
  rw [← e]
  exact h1

/-- A string; a bool. -/
def St (l : List UInt8) : Value := .string (strB l)
def Bo (b : Bool) : Value := .bool b
theorem infoSt : (Tryd.prog.info? 9).map (fun i => (i.zero, i.size, i.bytes)) = some (some (St []), 1, 16) := by kernel_rfl
theorem infoBo : (Tryd.prog.info? 4).map (fun i => (i.zero, i.size, i.bytes)) = some (some (Bo false), 1, 1) := by kernel_rfl
/-- An int. -/
def N (i : Nat) : Value := .int .i64 (i : Int)
theorem infoN : (Tryd.prog.info? 3).map (fun i => (i.zero, i.size, i.bytes)) = some (some (N 0), 1, 8) := by kernel_rfl
#print axioms app1
#print axioms make1
end Go.Proofs.YtfoalaoanpbmeaaDoor
