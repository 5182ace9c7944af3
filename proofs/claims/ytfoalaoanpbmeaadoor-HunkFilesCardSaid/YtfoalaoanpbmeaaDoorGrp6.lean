/-
  Merged: OneG, MyNext.
-/
import Derived.Test.YtfoalaoanpbmeaaDoorBytes
import Derived.WalkKit
import Derived.WalkSpells
import Derived.Laws.AppendOwnNone
import Derived.Laws.OwnMore
import Derived.Deep.LoopGhost
import Derived.Deep.QuietTactic
import Derived.BigQuiet
import Derived.WalkSmall
import Derived.Test.YtfoalaoanpbmeaaDoorGrp5
namespace Go.Proofs.YtfoalaoanpbmeaaDoor
open Go.RowKit

section
variable {α : Type} [Inhabited α] (mk : α → Value) (E : TypeId)

/-- A slice value reads as these. -/
def At1 (w : World) (a : Option Addr) (n c : Nat) (L : List α) : Prop :=
  L.length = n ∧ n ≤ c ∧ c ≤ 9223372036854775807 ∧ ((n = 0 ∧ c = 0) ∨ ∃ b off, a = some ⟨b, off, none⟩ ∧ ∀ j, j < n → w.cell? ⟨b, off + j, none⟩ = some (mk (L.getD j default)))
/-- A value that owns these, in memory from a block on. -/
def Own1 (w : World) (base : Nat) (v : Value) (L : List α) : Prop := w.ownsRow base E 1 v L.length (L.map mk)
end

section
variable {α : Type} {mk : α → Value} {E : TypeId} {w w' : World} {a : Option Addr} {n c base : Nat} {L : List α} {v : Value}

theorem At1.nil [Inhabited α] : At1 mk w none 0 0 [] := ⟨rfl, Nat.le_refl _, by omega, .inl ⟨rfl, rfl⟩⟩
theorem At1.below [Inhabited α] (h : At1 mk w a n c L) (hb : Below w.heap.size w w') : At1 mk w' a n c L := by
  obtain ⟨h1, h2, h3, h4⟩ := h
  refine ⟨h1, h2, h3, ?_⟩
  rcases h4 with h4 | ⟨b, off, ha, hc⟩
  · exact .inl h4
  · exact .inr ⟨b, off, ha, fun j hj => (hb.cell (World.block_lt_of_cell? _ _ (hc j hj))).trans (hc j hj)⟩
theorem At1.some_ [Inhabited α] (h : At1 mk w a n c L) (hn : 0 < n) : ∃ b off, a = some ⟨b, off, none⟩ := by
  rcases h.2.2.2 with ⟨h0, _⟩ | ⟨b, off, ha, _⟩
  · omega
  · exact ⟨b, off, ha⟩
theorem At1.cell [Inhabited α] {b off : Nat} (h : At1 mk w (some ⟨b, off, none⟩) n c L) (j : Nat) (hj : j < n) : w.cell? ⟨b, off + j, none⟩ = some (mk (L.getD j default)) := by
  rcases h.2.2.2 with ⟨h0, _⟩ | ⟨b', off', ha, hc⟩
  · omega
  · simp only [Option.some.injEq, Addr.mk.injEq, and_true] at ha
    obtain ⟨rfl, rfl⟩ := ha
    exact hc j hj

theorem Own1.nil : Own1 mk E w base (.slice none 0 0) [] := World.ownsRow_nil _ _ _ _
theorem Own1.at1_ [Inhabited α] (h : Own1 mk E w base v L) : ∃ a c, v = .slice a L.length c ∧ At1 mk w a L.length c L := by
  have h0 := h
  obtain ⟨h1, h2⟩ := h
  rcases h2 with ⟨rfl, hn⟩ | ⟨g, cap, cur, rfl, hb, hg, hn, hm, hs, ht⟩
  · have : L = [] := List.length_eq_zero_iff.1 hn
    subst this
    exact ⟨none, 0, rfl, At1.nil⟩
  · refine ⟨_, _, rfl, rfl, hn, by unfold maxLen at hm; omega, .inr ⟨g, 0, rfl, fun j hj => ?_⟩⟩
    have := h0.cells (g := g) rfl j (mk (L.getD j default)) (by rw [List.getElem?_map]; simp [hj])
    rw [Addr.add_lit] at this
    exact this
theorem Own1.at1 [Inhabited α] (h : Own1 mk E w base (.slice a n c) L) : At1 mk w a n c L := by
  obtain ⟨a', c', hv, hb⟩ := h.at1_
  simp only [Value.slice.injEq] at hv
  obtain ⟨rfl, rfl, rfl⟩ := hv
  exact hb
theorem Own1.alloc (h : Own1 mk E w base v L) (o : Obj) : Own1 mk E (w.alloc o) base v L := World.ownsRow.alloc h o
theorem Own1.lt (h : Own1 mk E w base v L) : ∀ k, v.ownBlock = some k → base ≤ k ∧ k < w.heap.size := World.ownsRow.lt h
theorem Own1.mono {base' : Nat} (h : Own1 mk E w base v L) (hb : base' ≤ base) : Own1 mk E w base' v L := by
  obtain ⟨h1, h2⟩ := h
  refine ⟨h1, ?_⟩
  rcases h2 with h2 | ⟨g, cap, cur, hv, hg, r⟩
  · exact .inl h2
  · exact .inr ⟨g, cap, cur, hv, by omega, r⟩
theorem Own1.below (h : Own1 mk E w base v L) (hb : Below w.heap.size w w') : Own1 mk E w' base v L := by
  obtain ⟨h1, h2⟩ := h
  refine ⟨h1, ?_⟩
  rcases h2 with h2 | ⟨g, cap, cur, hv, hg, hh, r⟩
  · exact .inl h2
  · refine .inr ⟨g, cap, cur, hv, hg, ?_, r⟩
    have hlt : g < w.heap.size := by
      rcases Nat.lt_or_ge g w.heap.size with h | h
      · exact h
      · rw [Array.getElem?_eq_none h] at hh; cases hh
    rw [hb.block g hlt]; exact hh
theorem Own1.kept {row : Option Nat} (h : Own1 mk E w base v L) (hg : w.grownBy w' row) (hne : v.ownBlock = none ∨ v.ownBlock ≠ row) : Own1 mk E w' base v L := World.ownsRow.kept h hg hne
theorem Own1.row [Inhabited α] (h : Own1 mk E w base (.slice a n c) L) (hn : 0 < n) : ∃ g, a = some ⟨g, 0, none⟩ ∧ base ≤ g ∧ g < w.heap.size ∧ L.length = n ∧ (∀ j, w.frozen? ⟨g, j, none⟩ = false) := by
  have h0 := h
  obtain ⟨h1, h2⟩ := h
  rcases h2 with ⟨hv, hz⟩ | ⟨g, cap, cur, hv, hb, hg, hle, hm, hs, ht⟩
  · simp only [Value.slice.injEq] at hv; omega
  · simp only [Value.slice.injEq] at hv
    obtain ⟨rfl, rfl, rfl⟩ := hv
    have hlt : g < w.heap.size := by
      rcases Nat.lt_or_ge g w.heap.size with h | h
      · exact h
      · rw [Array.getElem?_eq_none h] at hg; cases hg
    exact ⟨g, rfl, hb, hlt, rfl, fun j => World.ownsRow.frozenAt h0 j⟩
theorem Own1.store {g : Nat} (h : Own1 mk E w base (.slice (some ⟨g, 0, none⟩) n c) L) (hn : L.length = n) (j : Nat) (x : α) : Own1 mk E (w.setCell ⟨g, j, none⟩ (mk x)) base (.slice (some ⟨g, 0, none⟩) n c) (L.set j x) := by
  subst hn
  have := (World.ownsRow.stored h j (mk x)).1
  unfold Own1
  rw [List.length_set, List.map_set]
  exact this
theorem Own1.len [Inhabited α] (h : Own1 mk E w base (.slice a n c) L) : L.length = n := h.at1.1
end

/-- An append to what is the call's own, of one cell each. -/
theorem app1 {α : Type} [Inhabited α] (mk : α → Value) (h1c : ∀ x, (mk x).oneCell' = true) {T E : TypeId} {z : Value} {by_ : Nat} (hU : Tryd.prog.underlying T = some (.slice E)) (hI : (Tryd.prog.info? E).map (fun i => (i.zero, i.size, i.bytes)) = some (some z, 1, by_)) (hz : z.cells.size = 1)
    {w : World} {ops : Array Oper} {rest : List Oper} {o : Oper} {a : Act} {Q : Exit → Act → World → Prop} (hgd : o.guard = none) (s x : Operand)
    (ho : o.op = .call { callee := .builtin .append, args := #[s, x], argTypes := #[T, T] })
    (base : Nat) (v : Value) (l : List α) (hs : a.eval s = v) (hown : Own1 mk E w base v l)
    (sa : Option Addr) (m c : Nat) (src : List α) (hx : a.eval x = .slice sa m c) (hsrc : At1 mk w sa m c src)
    (h48 : (l.length + m) * (by_ + 1) ≤ 140737488355328) (hbase : base ≤ w.heap.size) (r : Nat) (hr : r = l.length + m)
    (h : ∀ a' c' w', Own1 mk E w' base (.slice a' r c') (l ++ src) → w.grownBy w' v.ownBlock → wpList Tryd.prog ops Q rest (a.put o.dst (.slice a' r c')) w') : wpList Tryd.prog ops Q (o :: rest) a w := by
  obtain ⟨i0, hi, hz0, hz1, hz2⟩ := info_parts hI
  obtain ⟨h1, h2, h3, h4⟩ := hsrc
  have fin : ∀ v' w', Own1 mk E w' base v' (l ++ src) → w.grownBy w' v.ownBlock → wpList Tryd.prog ops Q rest (a.put o.dst v') w' := by
    intro v' w' ho hg
    obtain ⟨a', c', rfl, _⟩ := ho.at1_
    have e : (l ++ src).length = r := by rw [List.length_append, h1, hr]
    rw [e] at ho ⊢
    exact h a' c' w' ho hg
  have e48 : (l.length + m) * by_ ≤ 140737488355328 := Nat.le_trans (Nat.mul_le_mul_left _ (by omega)) h48
  have e63 : l.length + m ≤ 140737488355328 := Nat.le_trans (Nat.le_mul_of_pos_right _ (by omega)) h48
  rcases h4 with ⟨rfl, rfl⟩ | ⟨b, off, rfl, hc⟩
  · have : src = [] := List.length_eq_zero_iff.1 h1
    subst this
    cases sa with
    | none =>
      refine wpList_append_own_none hgd s x T ho base E i0 1 hU hi v l.length (l.map mk) hs hown hx ?_
      exact fin v w (by rw [List.append_nil]; exact hown) ⟨rfl, rfl, rfl, Nat.le_refl _, fun _ _ _ => rfl⟩
    | some ad =>
      refine wpList_append_own w hgd s x T ho base E i0 z 1 by_ hU hi hz0 hz1 hz2 hz (by decide) v l.length (l.map mk) hs hown
        ad 0 0 [] hx (by simp) (by simp) (by simp) (by unfold maxLen; omega) (by omega) hbase ?_
      intro v' w' h5 h6 _
      exact fin v' w' (by rw [List.append_nil]; simpa [Own1] using h5) h6
  · refine wpList_append_own w hgd s x T ho base E i0 z 1 by_ hU hi hz0 hz1 hz2 hz (by decide) v l.length (l.map mk) hs hown
      ⟨b, off, none⟩ m c (src.map mk) hx (by simp [h1]) ?_ ?_ (by unfold maxLen; omega) (by omega) hbase ?_
    · intro j u hu
      rw [List.getElem?_map] at hu
      have hj : j < src.length := by
        rcases Nat.lt_or_ge j src.length with h | h
        · exact h
        · rw [List.getElem?_eq_none h] at hu; cases hu
      have := hc j (by omega)
      simp only [List.getElem?_eq_getElem hj, Option.map_some, Option.some.injEq] at hu
      subst hu
      rw [Addr.add_lit, this]
      simp [hj]
    · intro u hu
      obtain ⟨x, _, rfl⟩ := List.mem_map.1 hu
      exact h1c x
    · intro v' w' h5 h6 _
      refine fin v' w' ?_ h6
      unfold Own1
      rw [List.length_append, List.map_append, h1]
      exact h5

/-- 'make' of so many elements of one cell. -/
theorem make1 {α : Type} (mk : α → Value) {T E : TypeId} {by_ : Nat} {z0 : α} (hU : Tryd.prog.underlying T = some (.slice E)) (hI : (Tryd.prog.info? E).map (fun i => (i.zero, i.size, i.bytes)) = some (some (mk z0), 1, by_)) (hmk : (mk z0).cells = #[mk z0])
    {w : World} {ops : Array Oper} {rest : List Oper} {o : Oper} {a : Act} {Q : Exit → Act → World → Prop} (hgd : o.guard = none) (x y : Operand) (ho : o.op = Op.makeSlice T x y)
    (n : Nat) (hx : a.eval x = .int .i64 (n : Int)) (hy : a.eval y = .int .i64 (n : Int)) (hn : n ≤ 1000000000) (hb : by_ ≤ 1000)
    (h : ∀ w', Own1 mk E w' w.heap.size (.slice (some ⟨w.heap.size, 0, none⟩) n n) (List.replicate n z0) → w.grownBy w' none → wpList Tryd.prog ops Q rest (a.put o.dst (.slice (some ⟨w.heap.size, 0, none⟩) n n)) w') : wpList Tryd.prog ops Q (o :: rest) a w := by
  obtain ⟨i0, hi, hz0, hz1, hz2⟩ := info_parts hI
  have h48 : n * by_ ≤ 1000000000 * 1000 := Nat.mul_le_mul hn hb
  refine wpList_make_full w hgd x y _ ho w.heap.size E i0 (mk z0) 1 hU hi hz0 hz1 .i64 .i64 _ _ n hx hy rfl rfl (by rw [hz2, Nat.mul_comm]; omega) (by unfold maxLen; omega) (Nat.le_refl _) ?_
  intro w' h1 h2
  refine h w' ?_ h2
  unfold Own1
  rw [List.length_replicate, List.map_replicate]
  have e : (madeCells (mk z0).cells (n * 1)).toList = List.replicate n (mk z0) := by
    rw [hmk]
    apply List.ext_getElem
    · simp [madeCells]
    · intro i h3 h4
      simp [madeCells, Nat.mod_one]
  rw [← e]
  exact h1

/-- A string; a bool. -/
def St (l : List UInt8) : Value := .string (strB l)
def Bo (b : Bool) : Value := .bool b
theorem infoSt : (Tryd.prog.info? 9).map (fun i => (i.zero, i.size, i.bytes)) = some (some (St []), 1, 16) := by kernel_rfl
theorem infoBo : (Tryd.prog.info? 4).map (fun i => (i.zero, i.size, i.bytes)) = some (some (Bo false), 1, 1) := by kernel_rfl
/-- An int. -/
def N (i : Nat) : Value := .int .i64 (i : Int)
theorem infoN : (Tryd.prog.info? 3).map (fun i => (i.zero, i.size, i.bytes)) = some (some (N 0), 1, 8) := by kernel_rfl
#print axioms app1
#print axioms make1
end Go.Proofs.YtfoalaoanpbmeaaDoor

namespace Go.Proofs.YtfoalaoanpbmeaaDoor
open Go.RowKit My

abbrev PtB (b : Nat) : Value := .pointer (some ⟨b, 0, none⟩)
abbrev tryV (pn pm pa pb : Nat) : Value := .func (.func 93) #[] #[PtB pn, PtB pm, PtB pa, PtB pb]
/-- What is caught beside the rows: the finder, the closure that tries. -/
structure Both (w : World) (g pf pt pn pm pa pb : Nat) (A B : List Int) (aa ab : Option Addr) (ca cb : Nat) : Prop extends Caught w pn pm pa pb A B aa ab ca cb where
  f : w.cell? ⟨pf, 0, none⟩ = some (PtB g)
  t : w.cell? ⟨pt, 0, none⟩ = some (tryV pn pm pa pb)
  g0 : w.cell? ⟨g, 0, none⟩ = some (.int .i64 (A.length : Int))
  g1 : w.cell? ⟨g, 1, none⟩ = some (.int .i64 (B.length : Int))
theorem cell_below {w w' : World} {b o : Nat} {v : Value} (h : w.cell? ⟨b, o, none⟩ = some v) (hb : Below w.heap.size w w') : w'.cell? ⟨b, o, none⟩ = some v := (hb.cell (World.block_lt_of_cell? _ _ h)).trans h
theorem Both.below {w w' : World} {g pf pt pn pm pa pb : Nat} {A B : List Int} {aa ab : Option Addr} {ca cb : Nat} (h : Both w g pf pt pn pm pa pb A B aa ab ca cb) (hb : Below w.heap.size w w') : Both w' g pf pt pn pm pa pb A B aa ab ca cb :=
  ⟨h.toCaught.below hb, cell_below h.f hb, cell_below h.t hb, cell_below h.g0 hb, cell_below h.g1 hb⟩
/-- The list behind. -/
def NextIs (A B : List Int) (low : Int) (l : List Int) (w : World) (e : Ending) (w' : World) : Prop := ∃ (low' : Int) (l' : List Int) (a : Option Addr) (n c : Nat), e = .returned (.agg #[.int .i64 low', .slice a n c]) ∧ Lst w' a n c l' ∧ My.Next (eq2 A B) A.length B.length low l low' l' ∧ Below w.heap.size w w'
/-- Midway: the boxes, the row that is filled. -/
structure Nx (w : World) (g6 g9 gb : Nat) (low lo2 : Int) (a : Option Addr) (n c N : Nat) (W : World) (L : List Int) : Prop where
  below : Below w.heap.size w W
  r5 : RowAt W w.heap.size 132 (lstC low a n c)
  r6 : RowAt W g6 132 (lstC 0 none 0 0)
  r9 : RowAt W g9 132 (lstC lo2 (some ⟨gb, 0, none⟩) N N)
  own : OwnR W gb (.slice (some ⟨gb, 0, none⟩) N N) L
  len : L.length = N
  ne : w.heap.size ≠ gb ∧ g6 ≠ gb ∧ g9 ≠ gb ∧ w.heap.size < g6 ∧ w.heap.size < g9 ∧ w.heap.size < gb ∧ gb < W.heap.size
theorem RowAt.new (w : World) (t : TypeId) (cs : List Value) : RowAt (w.alloc (.cells cs.toArray t)) w.heap.size t cs := Array.getElem?_push_size
section
variable {w W W' : World} {g6 g9 gb : Nat} {low lo2 : Int} {a : Option Addr} {n c N : Nat} {L : List Int}
theorem Nx.on (h : Nx w g6 g9 gb low lo2 a n c N W L) (hb : Below W.heap.size W W') : Nx w g6 g9 gb low lo2 a n c N W' L :=
  ⟨h.below.trans (hb.mono h.below.size), h.r5.below hb, h.r6.below hb, h.r9.below hb, h.own.below hb, h.len, by have := h.ne; have := hb.size; omega⟩
theorem Nx.free (h : Nx w g6 g9 gb low lo2 a n c N W L) (j : Nat) : W.frozen? ⟨gb, j, none⟩ = false := by
  have h1 := h.own
  unfold OwnR at h1
  rw [h.len] at h1
  exact World.ownsRow.frozenAt h1 j
theorem Nx.cell (h : Nx w g6 g9 gb low lo2 a n c N W L) (j : Nat) (hj : (j : Int) < (N : Int)) : W.cell? ⟨gb, j, none⟩ = some (.int .i32 (L.getD j 0)) := by
  obtain ⟨b, off, h1, h2⟩ := h.own.isRuns.at_ (j := j) (by omega)
  simp only [Option.some.injEq, Addr.mk.injEq, and_true] at h1
  obtain ⟨rfl, rfl⟩ := h1
  simpa using h2
theorem Nx.set_other (h : Nx w g6 g9 gb low lo2 a n c N W L) (u : Value) (j : Nat) {b o : Nat} {v : Value} (hc : W.cell? ⟨b, o, none⟩ = some v) (hb : b < w.heap.size) : (W.setCell ⟨gb, j, none⟩ u).cell? ⟨b, o, none⟩ = some v := by
  rw [World.cell?_setCell_other]
  · exact hc
  · have := h.ne
    intro e
    have : gb = b := congrArg Addr.block e
    omega
theorem Nx.store (h : Nx w g6 g9 gb low lo2 a n c N W L) (j : Nat) (r : Int) : Nx w g6 g9 gb low lo2 a n c N (W.setCell ⟨gb, j, none⟩ (.int .i32 r)) (L.set j r) :=
  ⟨h.below.setCell (by show w.heap.size ≤ gb; have := h.ne; omega) _, h.r5.other h.ne.1 _, h.r6.other h.ne.2.1 _, h.r9.other h.ne.2.2.1 _, Own1.store (mk := R) (E := 21) h.own h.len j r, by rw [List.length_set]; exact h.len, by have := h.ne; simp only [World.setCell] at *; simpa using this⟩
end
theorem nx_made {w w1 w3 w4 : World} {low lo2 : Int} {a : Option Addr} {n c N : Nat} (hb : Below w.heap.size w w3) (r5 : RowAt w3 w.heap.size 132 (lstC low a n c)) (r6 : RowAt w3 w1.heap.size 132 (lstC 0 none 0 0)) (hs : w1.heap.size = w.heap.size + 1)
    (ho : Own1 R 21 w4 w3.heap.size (.slice (some ⟨w3.heap.size, 0, none⟩) N N) (List.replicate N 0)) (hg : w3.grownBy w4 none) :
    Nx w w1.heap.size w4.heap.size w3.heap.size low lo2 a n c N (w4.alloc (.cells (lstC lo2 (some ⟨w3.heap.size, 0, none⟩) N N).toArray 132)) (List.replicate N 0) := by
  have hb4 : Below w3.heap.size w3 w4 := (Below.refl w3.heap.size w3).grown hg (Nat.le_refl _) (fun k hk => by cases hk)
  have hb5 : Below w4.heap.size w4 (w4.alloc (.cells (lstC lo2 (some ⟨w3.heap.size, 0, none⟩) N N).toArray 132)) := (Below.refl _ _).alloc (Nat.le_refl _) _
  refine ⟨hb.trans ((hb4.trans (hb5.mono hb4.size)).mono hb.size), (r5.below hb4).below hb5, (r6.below hb4).below hb5, RowAt.new _ _ _, OwnR.alloc ho _, List.length_replicate, ?_⟩
  have h1 := r6.lt
  have h4 := hb4.size
  have h5 := World.ownsRow.lt ho _ rfl
  have h6 := hb5.size
  exact ⟨by omega, by omega, by omega, by omega, by omega, by omega, by omega⟩
theorem infoRz : (Tryd.prog.info? 21).map (fun i => (i.zero, i.size, i.bytes)) = some (some (R 0), 1, 4) := by kernel_rfl
theorem atF_small {l : List Int} (h : ∀ i, -1 ≤ l.getD i 0 ∧ l.getD i 0 ≤ 8192) (p : Int) : -1 ≤ atF l p ∧ atF l p ≤ 8192 := by
  unfold atF
  split
  · exact ⟨by omega, by omega⟩
  · exact h _
theorem run_min3 {P : Program} (ts : Array TypeId) (ty : TypeId) (a b c d : Int) (hd : d = min (min a b) c) (W : World) : (Builtin.min_ ts ty #[.int .i64 a, .int .i64 b, .int .i64 c]).run P W = .ok (.int .i64 d) W := by
  subst hd
  simp only [Builtin.min_]
  simp [Builtin.min2]
  (repeat' split) <;> omega
theorem next_small {E : Nat → Nat → Bool} {n m e : Nat} {low low' : Int} {l l' : List Int} (hN : My.Next E n m low l low' l') (h : My.Good E n m e low l) (hD : e < cd E n (n - m)) (hn : n ≤ 4096) : ∀ i, -1 ≤ l'.getD i 0 ∧ l'.getD i 0 ≤ 8192 := by
  intro i
  by_cases hi : i < l'.length
  · have p := ((hN.good h hD).snd i hi).1
    have := p.x0; have := p.xn; omega
  · rw [List.getD_eq_getElem?_getD, List.getElem?_eq_none (by omega)]; exact ⟨by decide, by decide⟩
theorem own_grown {w w' : World} {base g k : Nat} {n c : Nat} {L : List Int} (h : OwnR w base (.slice (some ⟨g, 0, none⟩) n c) L) (hg : w.grownBy w' (some k)) (hne : k ≠ g) : OwnR w' base (.slice (some ⟨g, 0, none⟩) n c) L := World.ownsRow.kept h hg (.inr (fun e => hne (Option.some.inj e).symm))
theorem own_block {w : World} {base : Nat} {a : Option Addr} {n c : Nat} {L : List Int} (h : OwnR w base (.slice a n c) L) : RBlock w a := fun b off e => by
  subst e
  obtain ⟨_, h2⟩ := h
  rcases h2 with ⟨h2, _⟩ | ⟨g, cap, cur, hv, _, hg, _⟩
  · cases h2
  · simp only [Value.slice.injEq, Option.some.injEq, Addr.mk.injEq, and_true] at hv
    obtain ⟨⟨rfl, _⟩, _⟩ := hv
    exact ⟨_, _, hg⟩
theorem next_start {E : Nat → Nat → Bool} {n m e : Nat} {low lo2 hi2 bl : Int} {l : List Int} {N i : Nat} (h : My.Good E n m e low l) (hlo : lowF m low l = lo2) (hhi : highF n low l = hi2) (hN : (hi2 - lo2) / 2 + 1 = N) (hbl : (lo2 - 1 - low) / 2 = bl) (hi : i < N) :
    Pt n m (startF n m l (bl + i) (lo2 + 2 * i)) (lo2 + 2 * i) := by
  obtain ⟨p1, p2, p3, p4, p5⟩ := place_of h hlo.symm (i := i) rfl (by rw [hhi]; omega)
  rw [hbl] at p1 p2 p3
  exact (start_of h p1 p2 p3 p4 p5).1
set_option maxRecDepth 100000 in
set_option maxHeartbeats 4000000 in
theorem next_any (A B : List Int) (aa ab : Option Addr) (ca cb g pf pt pn pm pa pb : Nat) (low : Int) (a : Option Addr) (n c : Nat) (l : List Int) (ed : Nat) (w : World) (h : Both w g pf pt pn pm pa pb A B aa ab ca cb) (hA : A.length ≤ 4096) (hB : B.length ≤ 4096)
    (hl : Lst w a n c l) (hG : My.Good (eq2 A B) A.length B.length ed low l) (hD : ed < cd (eq2 A B) A.length ((A.length : Int) - B.length)) :
    Calls Tryd.prog 94 #[.agg #[.int .i64 low, .slice a n c], PtB pf, PtB pt, PtB pn, PtB pm] w (NextIs A B low l w) := by
  obtain ⟨lo2, hlo2⟩ : ∃ z, lowF B.length low l = z := ⟨_, rfl⟩
  obtain ⟨hi2, hhi2⟩ : ∃ z, highF A.length low l = z := ⟨_, rfl⟩
  have htwo := hG.two hD
  have hlows := hG.lows
  have hpos := hG.pos
  have hlen := hl.runs.1
  have hcl := lowF_cases hG
  have hch := highF_cases hG
  rw [hlo2] at hcl htwo
  rw [hhi2] at hch htwo
  have blo : -4097 ≤ low ∧ low ≤ 4097 := by rw [hlen] at hlows hpos; omega
  have blo2 : -4098 ≤ lo2 ∧ lo2 ≤ 4098 := by rcases hcl with ⟨h, _⟩ | ⟨h, _⟩ <;> omega
  have bhi2 : -4098 ≤ hi2 ∧ hi2 ≤ 4098 := by rcases hch with ⟨h, _⟩ | ⟨h, _⟩ <;> omega
  obtain ⟨N, hN⟩ : ∃ N : Nat, (hi2 - lo2) / 2 + 1 = N := ⟨((hi2 - lo2) / 2 + 1).toNat, by omega⟩
  have hN1 : N ≤ 4098 := by omega
  obtain ⟨bl, hbl⟩ : ∃ z : Int, (lo2 - 1 - low) / 2 = z := ⟨_, rfl⟩
  have hbl2 : (lo2 - 1 - low).tdiv 2 = bl := by
    rcases hcl with ⟨h, _⟩ | ⟨h, _⟩
    · have e : lo2 - 1 - low = 0 := by omega
      rw [e] at hbl ⊢; rw [← hbl]; rfl
    · have e : lo2 - 1 - low = -2 := by omega
      rw [e] at hbl ⊢; rw [← hbl]; rfl
  have bbl : -1 ≤ bl ∧ bl ≤ 0 := by rcases hcl with ⟨h, _⟩ | ⟨h, _⟩ <;> omega
  have HLO := Lib.hid hlo2
  have HHI := Lib.hid hhi2
  have HNN := Lib.hid hN
  have HBL := Lib.hid hbl
  have HBL2 := Lib.hid hbl2
  have HG := Lib.hid hG
  have HD := Lib.hid hD
  have HL := Lib.hid hl
  have HBo := Lib.hid h
  have HLN := Lib.hid hlen
  have HAL := Lib.hid hA
  have HBL3 := Lib.hid hB
  have HAR := Lib.hid (fun W (hb : Below w.heap.size w W) => show Calls Tryd.prog 95 #[.pointer (some ⟨g, 0, none⟩), .agg #[.int .i64 low, .slice a n c]] W (TwoIs lo2 hi2 W) by
    have := around_any g A.length B.length low a n c l W (hl.below hb) (by omega) (by omega) (by omega) (by rw [hlen] at hlows; omega) (by rw [hlen] at hpos; omega) hB hA (cell_below h.g0 hb) (cell_below h.g1 hb)
    rwa [hlo2, hhi2] at this)
  have blo0 := blo.1
  have blo1 := blo.2
  have blo20 := blo2.1
  have blo21 := blo2.2
  have bhi20 := bhi2.1
  have bhi21 := bhi2.2
  have hdif : 0 ≤ hi2 - lo2 := by omega
  have bbl0 := bbl.1
  have bbl1 := bbl.2
  have HN1 := Lib.hid hN1
  have k1 := cell_below h.f (Below.refl _ w)
  clear h hl hG hD hA hB hlo2 hhi2 htwo hlows hpos hlen hcl hch blo blo2 bhi2 hbl hbl2 bbl hN hN1 k1
  go_enter Tryd.func94, Tryd.ntmps94
  go_wp2_with (first
    | (refine box_row rfl 132 (.tmp 0) (lstC low a n c) rfl rfl ?_; intro w1 hr1 hb1 hs1; have HB1 := Lib.hid hb1; have R1 := Lib.hid hr1; have HS1 := Lib.hid hs1; clear hr1 hb1 hs1)
    | ((with_reducible show wpList _ _ _ (⟨some 6, _, _, _, _, _⟩ :: _) _ _); refine alloc_row rfl 132 (lstC 0 none 0 0) rfl (by intro w; kernel_rfl) ?_; intro w2 hr2 hb2 hs2; have HB2 := Lib.hid (HB1.out.trans (hb2.mono HB1.out.size)); have R2 := Lib.hid (R1.out.below hb2); have Q2 := Lib.hid hr2; have HS2 := Lib.hid hs2; have k1 := cell_below HBo.out.f HB2.out; clear hr2 hb2 hs2)
    | ((with_reducible show wpList _ _ _ (⟨some 16, _, _, _, _, _⟩ :: _) _ _); refine load_row rfl 132 _ rfl w.heap.size _ (lstC low a n c) _ rfl R2.out Tryd.underlying132 rfl infoL ?_)
    | (go_at_call 95; (with_reducible refine (HAR.out _ HB2.out).mono ?_); rintro e w3 ⟨rfl, hb3⟩; have HB3 := Lib.hid (HB2.out.trans (hb3.mono HB2.out.size)); have R3 := Lib.hid (R2.out.below hb3); have Q3 := Lib.hid (Q2.out.below hb3); have x1 := HNN.out; clear k1 hb3)
    | ((with_reducible show wpList _ _ _ (⟨some 26, _, _, _, _, _⟩ :: _) _ _); refine make1 R (z0 := 0) Tryd.underlying50 infoRz rfl rfl _ _ rfl N rfl rfl (by have := HN1.out; omega) (by omega) ?_; intro w4 ho4 hg4; have M5 := Lib.hid (nx_made HB3.out R3.out Q3.out HS1.out ho4 hg4 (low := low) (lo2 := lo2)); have c0 := M5.out.r5.cell 0 rfl; have c9 := M5.out.r9.cell 1 rfl; have x2 := HBL2.out; clear x1 ho4 hg4))
  clear x2 c0 c9
  obtain ⟨W5, hW5⟩ : ∃ W5, w4.alloc (.cells #[.int .i64 lo2, .slice (some ⟨w3.heap.size, 0, none⟩) N N] 132) = W5 := ⟨_, rfl⟩
  have M6 := Lib.hid (show Nx w w1.heap.size w4.heap.size w3.heap.size low lo2 a n c N W5 (List.replicate N 0) by rw [← hW5]; exact M5.out)
  rw [hW5]
  clear hW5 M5
  have hNI : (N : Int) ≤ 4098 := by have := HN1.out; omega
  go_loopg [37] N (fun gh v37 W => ∃ (i : Nat) (L : List Int), v37 = .int .i64 i ∧ gh + i = N ∧ Hid (Nx w w1.heap.size w4.heap.size w3.heap.size low lo2 a n c N W L) ∧ Hid (L.length = N ∧ ∀ t, t < i → Slid (eq2 A B) A.length B.length (lo2 + 2 * t) (startF A.length B.length l (bl + t) (lo2 + 2 * t)) (L.getD t 0)))
  case atStart => exact ⟨0, _, rfl, rfl, M6, Lib.hid ⟨List.length_replicate, fun t ht => by omega⟩⟩
  case round =>
    obtain ⟨i, L, rfl, hgh, HM, HS⟩ := hrel
    have HGH := Lib.hid hgh
    have hi0 : (0 : Int) ≤ (i : Int) := by omega
    have hiN : (i : Int) ≤ (N : Int) := by omega
    clear hgh
    by_cases hi : (i : Int) < (N : Int)
    · have hib : decide (i < N) = true := by simp; omega
      have HI := Lib.hid hi
      obtain ⟨u, hu⟩ : ∃ u, atF l (bl + (i : Int)) = u := ⟨_, rfl⟩
      obtain ⟨v, hv⟩ : ∃ v, atF l (bl + (i : Int) + 1) = v := ⟨_, rfl⟩
      have bu := atF_small HL.out.small (bl + (i : Int))
      have bv := atF_small HL.out.small (bl + (i : Int) + 1)
      have HA1 := Lib.hid (fun W (hb : Below w.heap.size w W) => at_any low a n c l (bl + (i : Int)) W (HL.out.below hb))
      have HA2 := Lib.hid (fun W (hb : Below w.heap.size w W) => at_any low a n c l (bl + (i : Int) + 1) W (HL.out.below hb))
      rw [hu] at HA1 bu
      rw [hv] at HA2 bv
      have c0 := HM.out.r5.cell 0 rfl
      have c1 := HM.out.r5.cell 1 rfl
      have X1 := Lib.hid (IntWalk.i64_in (bl + (i : Int)) (by omega))
      have X2 := Lib.hid (IntWalk.i64_in (bl + (i : Int) + 1) (by omega))
      have X3 := Lib.hid (IntWalk.i64_in (u + 1) (by omega))
      obtain ⟨fu, hfu⟩ : ∃ z, (if u + 1 < v then v else u + 1) = z := ⟨_, rfl⟩
      have bfu : 0 ≤ fu ∧ fu ≤ 8193 := by rw [← hfu]; split <;> omega
      have HFU := Lib.hid hfu
      have HU := Lib.hid hu
      have HV := Lib.hid hv
      obtain ⟨q, hq⟩ : ∃ q, lo2 + 2 * (i : Int) = q := ⟨_, rfl⟩
      have HQ := Lib.hid hq
      have bq : -10000 ≤ q ∧ q ≤ 20000 := by omega
      clear hu hv hfu hq bu bv
      go_wp2_with fail
      rw [HQ.out]
      have x1 := X1.out
      have x2 := X2.out
      have x3 := X3.out
      go_region_held3 (fun W => W.cell? ⟨w.heap.size, 0, none⟩ = some (.int .i64 low) ∧ W.cell? ⟨w.heap.size, 1, none⟩ = some (.slice a n c)) (first | exact ⟨c0, c1⟩ | exact ⟨d0, d1⟩ | exact ⟨e0, e1⟩) (first
        | (go_at_call 96; (refine (HA2.out _ M7.out.below).mono ?_); rintro e w8 ⟨rfl, hb8⟩; have M8 := Lib.hid (M7.out.on hb8); have e0 := M8.out.r5.cell 0 rfl; have e1 := M8.out.r5.cell 1 rfl; clear hb8)
        | (go_at_call 96; (refine (HA1.out _ HM.out.below.drew).mono ?_); rintro e w7 ⟨rfl, hb7⟩; have M7 := Lib.hid (HM.out.on (show Below wr.heap.size wr w7 from (Below.refl wr.heap.size wr).drew.trans hb7)); have d0 := M7.out.r5.cell 0 rfl; have d1 := M7.out.r5.cell 1 rfl; clear hb7))
      rw [HFU.out]
      clear x1 x2 x3 c0 c1 d0 d1 e0 e1
      have PT := Lib.hid (next_start HG.out HLO.out HHI.out HNN.out HBL.out (i := i) (by have := HI.out; omega))
      rw [HQ.out] at PT
      obtain ⟨st, hst⟩ : ∃ z, startF A.length B.length l (bl + (i : Int)) q = z := ⟨_, rfl⟩
      have HST := Lib.hid (show startF A.length B.length l (bl + (i : Int)) q = min (min fu A.length) (B.length + q) by unfold startF; rw [HU.out, HV.out, ← HFU.out]; split <;> omega)
      rw [hst] at HST PT
      have HST2 := Lib.hid hst
      clear hst
      have HB8 := Lib.hid (HBo.out.below M8.out.below)
      obtain ⟨nn, hnn⟩ : ∃ z, A.length = z := ⟨_, rfl⟩
      obtain ⟨mm, hmm⟩ : ∃ z, B.length = z := ⟨_, rfl⟩
      have TR := Lib.hid (fun W (hb : Below w8.heap.size w8 W) => try_any A B aa ab ca cb pn pm pa pb q st W (HB8.out.toCaught.below hb) HAL.out HBL3.out PT.out)
      have p0 := HB8.out.t
      have p1 := HB8.out.n
      have p2 := HB8.out.m
      have p3 := M8.out.r9.cell 1 rfl
      have X4 := Lib.hid (IntWalk.i64_in ((mm : Int) + q) (by have := HBL3.out; omega))
      rw [hnn] at p1 HST
      rw [hmm] at p2 HST
      have HNN2 := Lib.hid hnn
      have HMM2 := Lib.hid hmm
      clear hnn hmm
      have x4 := X4.out
      have xm := fun W => run_min3 (P := Tryd.prog) #[3, 3, 3] 3 fu nn (mm + q) st HST.out W
      go_wp2_with fail
      go_region_held3 (fun W => W.cell? ⟨pt, 0, none⟩ = some (tryV pn pm pa pb) ∧ W.cell? ⟨pn, 0, none⟩ = some (.int .i64 nn) ∧ W.cell? ⟨pm, 0, none⟩ = some (.int .i64 mm) ∧ W.cell? ⟨w4.heap.size, 1, none⟩ = some (.slice (some ⟨w3.heap.size, 0, none⟩) N N)) (first | exact ⟨p0, p1, p2, p3⟩ | exact ⟨q0, q1, q2, q3⟩ | exact ⟨s0, s1, s2, s3⟩) (first
        | (go_at_call 93; (refine (TR.out _ (below_drewN w8 1)).mono ?_); rintro e w9 ⟨r, rfl, hsl, hb9⟩
           have hb9' : Below w8.heap.size w8 w9 := (below_drewN w8 1).trans hb9
           have M9 := Lib.hid (M8.out.on hb9')
           have SL := Lib.hid hsl
           have q0 := cell_below p0 hb9'
           have q1 := cell_below p1 hb9'
           have q2 := cell_below p2 hb9'
           have q3 := M9.out.r9.cell 1 rfl
           have f9 := M9.out.free i
           have l9 := M9.out.cell i HI.out
           have M10 := Lib.hid (M9.out.store i r)
           have s0 := M9.out.set_other (.int .i32 r) i q0 (World.block_lt_of_cell? _ _ HBo.out.t)
           have s1 := M9.out.set_other (.int .i32 r) i q1 (World.block_lt_of_cell? _ _ HBo.out.n)
           have s2 := M9.out.set_other (.int .i32 r) i q2 (World.block_lt_of_cell? _ _ HBo.out.m)
           have s3 := M10.out.r9.cell 1 rfl
           clear hsl hb9 hb9'))
      clear p0 p1 p2 p3 q0 q1 q2 q3 s0 s1 s2 s3 f9 l9 xm x4
      go_wp2
      go_roundg (N - (i + 1))
      case measure => have := HGH.out; have := HI.out; omega
      case rel => exact ⟨i + 1, L.set i r, by go_num, by have := HGH.out; have := HI.out; omega, M10, Lib.hid ⟨M10.out.len, fun t ht => by
          have hLl := HS.out.1
          have hiI := HI.out
          by_cases e : t = i
          · subst e
            have e1 : (L.set t r).getD t 0 = r := by rw [List.getD_eq_getElem?_getD, List.getElem?_set_self (by rw [hLl]; omega)]; rfl
            rw [e1, HQ.out, HST2.out]
            have := SL.out
            exact this
          · have e1 : (L.set i r).getD t 0 = L.getD t 0 := by simp only [List.getD_eq_getElem?_getD, List.getElem?_set_ne (fun h => e h.symm)]
            rw [e1]
            exact HS.out.2 t (by omega)⟩⟩
    · have hib : decide (i < N) = false := by simp; omega
      have HE := Lib.hid (show i = N by omega)
      go_wp2_with (first
        | (refine load_row rfl 132 _ rfl w4.heap.size _ (lstC lo2 (some ⟨w3.heap.size, 0, none⟩) N N) _ rfl HM.out.r9 Tryd.underlying132 rfl infoL ?_)
        | (refine store_row rfl 132 _ _ rfl w1.heap.size _ (lstC 0 none 0 0) (lstC lo2 (some ⟨w3.heap.size, 0, none⟩) N N) rfl rfl HM.out.r6 rfl infoL (lstC_one _ _ _ _) ?_; intro w9 hr9 hg9 _))
      have HB9 := Lib.hid (HM.out.below.grown hg9 HM.out.below.size (fun k hk => by cases hk; exact Nat.le_of_lt HM.out.ne.2.2.2.1))
      have HN9 := Lib.hid (show My.Next (eq2 A B) A.length B.length low l lo2 L from ⟨HLO.out.symm, by rw [HM.out.len, HHI.out]; exact HNN.out.symm, fun t ht => by
        have := HS.out.2 t (by rw [HE.out, ← HM.out.len]; exact ht)
        rw [← HBL.out] at this
        exact this⟩)
      have HL9 := Lib.hid (next_small HN9.out HG.out HD.out HAL.out)
      exact bodyPost_ret (results_row rfl _ _ w1.heap.size _ _ _ rfl hr9 Tryd.underlying132 rfl infoL) rfl ⟨lo2, L, _, _, _, rfl, ⟨own_block (own_grown HM.out.own hg9 HM.out.ne.2.1), (own_grown HM.out.own hg9 HM.out.ne.2.1).isRuns, HL9.out, by have := HN1.out; omega⟩, HN9.out, HB9.out⟩
#print axioms next_any
end Go.Proofs.YtfoalaoanpbmeaaDoor
