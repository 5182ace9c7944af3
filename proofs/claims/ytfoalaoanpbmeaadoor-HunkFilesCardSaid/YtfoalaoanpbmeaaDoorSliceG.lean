/-
  Slices of elements of so many cells each, of any kind: one that can be read, one that the call made itself; an append, a store.
-/
import Derived.Test.YtfoalaoanpbmeaaDoorProg
import Derived.WalkKit
import Derived.Maps.OwnSet
import Derived.Lib.AppendZeros
import Derived.Laws.OwnMore
import Derived.Laws.AppendOwnNone
import Derived.Deep.MidRow
namespace Go.Proofs.YtfoalaoanpbmeaaDoor
open Go.RowKit

/-- A kind of element: its cells. -/
structure Kind (α : Type) where
  cells : α → List Value
  k : Nat
  ok : α → Prop
  pos : 0 < k
  len : ∀ x, ok x → (cells x).length = k
  one : ∀ x, ok x → ∀ v ∈ cells x, v.oneCell' = true
section
variable {α : Type} [Inhabited α] (K : Kind α)
def gd (L : List α) (i : Nat) : α := L.getD i default
theorem gd_mem {L : List α} {i : Nat} (h : i < L.length) : gd L i ∈ L := by
  have : gd L i = L[i] := by unfold gd; simp [h]
  rw [this]; exact List.getElem_mem h
def flatG (L : List α) : List Value := L.flatMap K.cells
omit [Inhabited α] in
theorem flatG_length {L : List α} (h : ∀ x ∈ L, K.ok x) : (flatG K L).length = L.length * K.k := by
  induction L with
  | nil => simp [flatG]
  | cons x T ih =>
    have h1 := K.len x (h x (by simp))
    have h2 := ih (fun y hy => h y (List.mem_cons_of_mem _ hy))
    unfold flatG at *
    rw [List.flatMap_cons, List.length_append, h1, h2, List.length_cons, Nat.succ_mul, Nat.add_comm]
omit [Inhabited α] in
theorem flatG_append (L M : List α) : flatG K (L ++ M) = flatG K L ++ flatG K M := by simp [flatG]
theorem flatG_at {L : List α} (h : ∀ x ∈ L, K.ok x) : ∀ (j i : Nat), j < L.length → i < K.k → (flatG K L)[j * K.k + i]? = (K.cells (gd L j))[i]? := by
  induction L with
  | nil => intro j i hj; simp at hj
  | cons x T ih =>
    intro j i hj hi
    have h1 := K.len x (h x (by simp))
    have e : flatG K (x :: T) = K.cells x ++ flatG K T := rfl
    rw [e]
    cases j with
    | zero =>
      rw [Nat.zero_mul, Nat.zero_add, List.getElem?_append_left (by omega)]
      rfl
    | succ j =>
      have e2 : (j + 1) * K.k + i = K.k + (j * K.k + i) := by rw [Nat.succ_mul]; omega
      rw [e2, List.getElem?_append_right (by omega), h1, Nat.add_sub_cancel_left]
      rw [ih (fun y hy => h y (List.mem_cons_of_mem _ hy)) j i (by simpa using hj) hi]
      rfl
omit [Inhabited α] in
theorem flatG_one {L : List α} (h : ∀ x ∈ L, K.ok x) : ∀ v ∈ flatG K L, v.oneCell' = true := fun v hv => by
  obtain ⟨x, hx, hv⟩ := List.mem_flatMap.1 hv
  exact K.one x (h x hx) v hv
theorem flatG_set {L : List α} (h : ∀ x ∈ L, K.ok x) : ∀ {j i : Nat} (_ : j < L.length) (_ : i < K.k) (v : Value) (y : α), K.cells y = (K.cells (gd L j)).set i v → (flatG K L).set (j * K.k + i) v = flatG K (L.set j y) := by
  induction L with
  | nil => intro j i hj; simp at hj
  | cons x T ih =>
    intro j i hj hi v y hy
    have h1 := K.len x (h x (by simp))
    have e : flatG K (x :: T) = K.cells x ++ flatG K T := rfl
    rw [e]
    cases j with
    | zero =>
      rw [Nat.zero_mul, Nat.zero_add, List.set_append_left _ _ (by omega), List.set_cons_zero]
      show _ = K.cells y ++ flatG K T
      rw [hy]
      rfl
    | succ j =>
      have e2 : (j + 1) * K.k + i = K.k + (j * K.k + i) := by rw [Nat.succ_mul]; omega
      rw [e2, List.set_append_right _ _ (by omega), h1, Nat.add_sub_cancel_left, List.set_cons_succ]
      rw [ih (fun z hz => h z (List.mem_cons_of_mem _ hz)) (by simpa using hj) hi v y hy]
      rfl

/-- A slice value reads as these elements. -/
def AtG (w : World) (a : Option Addr) (n c : Nat) (L : List α) : Prop :=
  L.length = n ∧ n ≤ c ∧ c ≤ 9223372036854775807 ∧ (∀ x ∈ L, K.ok x) ∧ ((n = 0 ∧ c = 0) ∨ ∃ b off, a = some ⟨b, off, none⟩ ∧ ∀ j, j < n → w.rangeAt b (off + j * K.k) (K.cells (gd L j)))
/-- A value that owns these elements, in memory from a block on. -/
def OwnG (E : TypeId) (w : World) (base : Nat) (v : Value) (L : List α) : Prop := w.ownsRow base E K.k v L.length (flatG K L) ∧ ∀ x ∈ L, K.ok x
end
section
variable {α : Type} [Inhabited α] {K : Kind α} {w w' : World} {a : Option Addr} {n c : Nat} {L : List α}
theorem AtG.nil : AtG K w none 0 0 [] := ⟨rfl, Nat.le_refl _, by omega, (fun _ h => by cases h), .inl ⟨rfl, rfl⟩⟩
theorem AtG.some_ (h : AtG K w a n c L) (hn : 0 < n) : ∃ b off, a = some ⟨b, off, none⟩ := by
  rcases h.2.2.2.2 with ⟨h0, _⟩ | ⟨b, off, ha, _⟩
  · omega
  · exact ⟨b, off, ha⟩
theorem AtG.at_ {b off : Nat} (h : AtG K w (some ⟨b, off, none⟩) n c L) (j : Nat) (hj : j < n) : w.rangeAt b (off + j * K.k) (K.cells (gd L j)) := by
  rcases h.2.2.2.2 with ⟨h0, _⟩ | ⟨b', off', ha, hc⟩
  · omega
  · simp only [Option.some.injEq, Addr.mk.injEq, and_true] at ha
    obtain ⟨rfl, rfl⟩ := ha
    exact hc j hj
theorem AtG.cell {b off : Nat} (h : AtG K w (some ⟨b, off, none⟩) n c L) (j : Nat) (hj : j < n) (i : Nat) (v : Value) (hv : (K.cells (gd L j))[i]? = some v) : w.cell? ⟨b, off + j * K.k + i, none⟩ = some v := h.at_ j hj i v hv
theorem AtG.below (h : AtG K w a n c L) (hb : Below w.heap.size w w') : AtG K w' a n c L := by
  obtain ⟨h1, h2, h3, h5, h4⟩ := h
  refine ⟨h1, h2, h3, h5, ?_⟩
  rcases h4 with h4 | ⟨b, off, ha, hc⟩
  · exact .inl h4
  · exact .inr ⟨b, off, ha, fun j hj i v hv => (hb.cell (World.block_lt_of_cell? _ _ (hc j hj i v hv))).trans (hc j hj i v hv)⟩
theorem AtG.ok (h : AtG K w a n c L) {j : Nat} (hj : j < n) : K.ok (gd L j) := h.2.2.2.1 _ (gd_mem (by have := h.1; omega))
theorem AtG.pick {b off : Nat} (h : AtG K w (some ⟨b, off, none⟩) n c L) (j : Nat) (u : Value) (hu : (flatG K L)[j]? = some u) : w.cell? ⟨b, off + j, none⟩ = some u := by
  have hjl : j < n * K.k := by
    have := (List.getElem?_eq_some_iff.1 hu).1
    rwa [flatG_length K h.2.2.2.1, h.1] at this
  have hj2 : j / K.k < n := Nat.div_lt_of_lt_mul (by rwa [Nat.mul_comm] at hjl)
  have hd : j / K.k * K.k + j % K.k = j := Nat.div_add_mod' j K.k
  have hu2 := flatG_at K h.2.2.2.1 (j / K.k) (j % K.k) (h.1 ▸ hj2) (Nat.mod_lt _ K.pos)
  rw [hd, hu] at hu2
  have := h.at_ (j / K.k) hj2 (j % K.k) u hu2.symm
  rwa [Nat.add_assoc, hd] at this
end
section
variable {α : Type} [Inhabited α] {K : Kind α} {E : TypeId} {w w' : World} {base : Nat} {v : Value} {L : List α} {a : Option Addr} {n c : Nat}
omit [Inhabited α] in
theorem OwnG.nil : OwnG K E w base (.slice none 0 0) [] := ⟨World.ownsRow_nil _ _ _ _, (fun _ h => by cases h)⟩
theorem OwnG.atG_ (h : OwnG K E w base v L) : ∃ a c, v = .slice a L.length c ∧ AtG K w a L.length c L := by
  obtain ⟨h0, hw⟩ := h
  have h0' := h0
  obtain ⟨h1, h2⟩ := h0
  rcases h2 with ⟨rfl, hn⟩ | ⟨g, cap, cur, rfl, hb, hg, hn, hm, hs, ht⟩
  · have : L = [] := List.length_eq_zero_iff.1 hn
    subst this
    exact ⟨none, 0, rfl, AtG.nil⟩
  · refine ⟨_, _, rfl, rfl, hn, by unfold maxLen at hm; omega, hw, .inr ⟨g, 0, rfl, fun j hj i u hu => ?_⟩⟩
    have hi : i < K.k := by
      have h3 := (List.getElem?_eq_some_iff.1 hu).1
      rwa [K.len _ (hw _ (gd_mem hj))] at h3
    have := h0'.cells (g := g) rfl (j * K.k + i) u (by rw [flatG_at K hw j i hj hi]; exact hu)
    rw [Addr.add_lit] at this
    rw [Nat.zero_add] at this ⊢
    exact this
theorem OwnG.atG (h : OwnG K E w base (.slice a n c) L) : AtG K w a n c L := by
  obtain ⟨a', c', hv, hb⟩ := h.atG_
  simp only [Value.slice.injEq] at hv
  obtain ⟨rfl, rfl, rfl⟩ := hv
  exact hb
theorem OwnG.len (h : OwnG K E w base (.slice a n c) L) : L.length = n := h.atG.1
omit [Inhabited α] in
theorem OwnG.lt (h : OwnG K E w base v L) : ∀ k, v.ownBlock = some k → base ≤ k ∧ k < w.heap.size := fun k hk => World.ownsRow.lt h.1 k hk
omit [Inhabited α] in
theorem OwnG.alloc (h : OwnG K E w base v L) (o : Obj) : OwnG K E (w.alloc o) base v L := ⟨World.ownsRow.alloc h.1 o, h.2⟩
omit [Inhabited α] in
theorem OwnG.kept {row : Option Nat} (h : OwnG K E w base v L) (hg : w.grownBy w' row) (hne : v.ownBlock = none ∨ v.ownBlock ≠ row) : OwnG K E w' base v L := ⟨World.ownsRow.kept h.1 hg hne, h.2⟩
omit [Inhabited α] in
theorem OwnG.below (h : OwnG K E w base v L) (hb : Below w.heap.size w w') : OwnG K E w' base v L := by
  obtain ⟨⟨h1, h2⟩, h3⟩ := h
  refine ⟨⟨h1, ?_⟩, h3⟩
  rcases h2 with h2 | ⟨g, cap, cur, hv, hg, hh, r⟩
  · exact .inl h2
  · refine .inr ⟨g, cap, cur, hv, hg, ?_, r⟩
    have hlt : g < w.heap.size := by
      rcases Nat.lt_or_ge g w.heap.size with h | h
      · exact h
      · rw [Array.getElem?_eq_none h] at hh; cases hh
    rw [hb.block g hlt]; exact hh
omit [Inhabited α] in
theorem OwnG.mono {base' : Nat} (h : OwnG K E w base v L) (hb : base' ≤ base) : OwnG K E w base' v L := by
  obtain ⟨⟨h1, h2⟩, h3⟩ := h
  refine ⟨⟨h1, ?_⟩, h3⟩
  rcases h2 with h2 | ⟨g, cap, cur, hv, hg, r⟩
  · exact .inl h2
  · exact .inr ⟨g, cap, cur, hv, by omega, r⟩
omit [Inhabited α] in
theorem OwnG.row (h : OwnG K E w base (.slice a n c) L) (hn : 0 < n) : ∃ g, a = some ⟨g, 0, none⟩ ∧ base ≤ g ∧ g < w.heap.size ∧ (∀ j, w.frozen? ⟨g, j, none⟩ = false) := by
  have h0 := h.1
  obtain ⟨⟨h1, h2⟩, _⟩ := h
  rcases h2 with ⟨hv, hz⟩ | ⟨g, cap, cur, hv, hb, hg, hle, hm, hs, ht⟩
  · simp only [Value.slice.injEq] at hv; omega
  · simp only [Value.slice.injEq] at hv
    obtain ⟨rfl, rfl, rfl⟩ := hv
    have hlt : g < w.heap.size := by
      rcases Nat.lt_or_ge g w.heap.size with h | h
      · exact h
      · rw [Array.getElem?_eq_none h] at hg; cases hg
    exact ⟨g, rfl, hb, hlt, fun j => World.ownsRow.frozenAt h0 j⟩
/-- A store into one cell of an element. -/
theorem OwnG.store {g j i : Nat} (h : OwnG K E w base (.slice (some ⟨g, 0, none⟩) n c) L) (hj : j < n) (hi : i < K.k) (u : Value) (y : α) (hy : K.cells y = (K.cells (gd L j)).set i u) (hok : K.ok y) :
    OwnG K E (w.setCell ⟨g, j * K.k + i, none⟩ u) base (.slice (some ⟨g, 0, none⟩) n c) (L.set j y) := by
  have hn := h.len
  subst hn
  refine ⟨?_, fun x hx => ?_⟩
  · have := (World.ownsRow.stored h.1 (j * K.k + i) u).1
    rw [List.length_set, ← flatG_set K h.2 hj hi u y hy]
    exact this
  · rcases List.mem_or_eq_of_mem_set hx with hx | rfl
    · exact h.2 x hx
    · exact hok
omit [Inhabited α] in
/-- A slice literal of none, in a block of its own. -/
theorem OwnG.lit (hE : L = []) (cs : Array Value) (hcs : cs = #[]) : OwnG K E (w.alloc (.cells cs E)) w.heap.size (.slice (some ⟨w.heap.size, 0, none⟩) 0 0) L := by
  subst hE hcs
  exact ⟨World.ownsRow_lit w #[] 0 (Nat.le_refl _) (Nat.zero_le _) (Nat.zero_mul _).symm, fun _ h => by cases h⟩
theorem oneG (w : World) (x : α) (hx : K.ok x) (E : TypeId) (cs : Array Value) (hcs : cs = (K.cells x).toArray) : AtG K (w.alloc (.cells cs E)) (some ⟨w.heap.size, 0, none⟩) 1 1 [x] := by
  subst hcs
  refine ⟨rfl, Nat.le_refl _, by omega, fun y hy => by simp at hy; rw [hy]; exact hx, .inr ⟨_, _, rfl, fun j hj i v hv => ?_⟩⟩
  obtain rfl : j = 0 := by omega
  have e : gd [x] 0 = x := rfl
  rw [e] at hv
  rw [Nat.zero_mul, Nat.zero_add, World.cell?_alloc_new]
  simpa using hv
end

theorem run_appG {α : Type} [Inhabited α] (K : Kind α) {T E : TypeId} {z : Value} {by_ : Nat} (ty : TypeId) (hU : Tryd.prog.underlying T = some (.slice E)) (hI : (Tryd.prog.info? E).map (fun i => (i.zero, i.size, i.bytes)) = some (some z, K.k, by_)) (hz : z.cells.size = K.k)
    (w : World) (base : Nat) (v : Value) (l : List α) (hown : OwnG K E w base v l) (sa : Option Addr) (m c : Nat) (src : List α) (hsrc : AtG K w sa m c src) (h48 : (l.length + m) * (by_ + 1) ≤ 140737488355328) (hbase : base ≤ w.heap.size) (r : Nat) (hr : r = l.length + m) :
    ∃ a' c' w', (Builtin.append_ #[T, T] ty #[v, .slice sa m c]).run Tryd.prog w = .ok (.slice a' r c') w' ∧ OwnG K E w' base (.slice a' r c') (l ++ src) ∧ w.grownBy w' v.ownBlock := by
  obtain ⟨i0, hi, hz0, hz1, hz2⟩ := info_parts hI
  obtain ⟨h1, h2, h3, h5, h4⟩ := id hsrc
  have e48 : (l.length + m) * by_ ≤ 140737488355328 := Nat.le_trans (Nat.mul_le_mul_left _ (by omega)) h48
  have e63 : l.length + m ≤ 140737488355328 := Nat.le_trans (Nat.le_mul_of_pos_right _ (by omega)) h48
  have hW : ∀ y ∈ l ++ src, K.ok y := fun y hy => by
    rcases List.mem_append.1 hy with h | h
    · exact hown.2 y h
    · exact h5 y h
  have fin : ∀ v' w', (Builtin.append_ #[T, T] ty #[v, .slice sa m c]).run Tryd.prog w = .ok v' w' → OwnG K E w' base v' (l ++ src) → w.grownBy w' v.ownBlock →
      ∃ a' c' w', (Builtin.append_ #[T, T] ty #[v, .slice sa m c]).run Tryd.prog w = .ok (.slice a' r c') w' ∧ OwnG K E w' base (.slice a' r c') (l ++ src) ∧ w.grownBy w' v.ownBlock := by
    intro v' w' hrun hO hg
    obtain ⟨a', c', rfl, _⟩ := hO.atG_
    have e : (l ++ src).length = r := by rw [List.length_append, h1, hr]
    rw [e] at hO hrun
    exact ⟨a', c', w', hrun, hO, hg⟩
  rcases h4 with ⟨rfl, rfl⟩ | ⟨b, off, rfl, hc⟩
  · have : src = [] := List.length_eq_zero_iff.1 h1
    subst this
    cases sa with
    | none => exact fin v w (run_append_owned_none (P := Tryd.prog) _ base T ty E i0 K.k hU hi _ _ _ hown.1) (by rw [List.append_nil]; exact hown) ⟨rfl, rfl, rfl, Nat.le_refl _, fun _ _ _ => rfl⟩
    | some ad =>
      obtain ⟨v', w', hrun, h6, h7, _⟩ := run_append_own (P := Tryd.prog) _ base T ty E i0 z K.k by_ hU hi hz0 hz1 hz2 hz K.pos _ _ _ hown.1 ad 0 0 [] (by simp) (by simp) (by simp) (by unfold maxLen; omega) (by simpa using e48) hbase
      exact fin v' w' hrun (by rw [List.append_nil]; exact ⟨by simpa using h6, hown.2⟩) h7
  · obtain ⟨v', w', hrun, h6, h7, _⟩ := run_append_own (P := Tryd.prog) _ base T ty E i0 z K.k by_ hU hi hz0 hz1 hz2 hz K.pos _ _ _ hown.1 ⟨b, off, none⟩ m c (flatG K src) (by rw [flatG_length K h5, h1]) (fun j u hu => by
      rw [Addr.add_lit]
      exact hsrc.pick j u hu) (flatG_one K h5) (by unfold maxLen; omega) e48 hbase
    refine fin v' w' hrun ⟨?_, hW⟩ h7
    rw [List.length_append, flatG_append, h1]
    exact h6
/-- An append of elements to what is the call's own. -/
theorem wp_appG {α : Type} [Inhabited α] (K : Kind α) {T E : TypeId} {z : Value} {by_ : Nat} (hU : Tryd.prog.underlying T = some (.slice E)) (hI : (Tryd.prog.info? E).map (fun i => (i.zero, i.size, i.bytes)) = some (some z, K.k, by_)) (hz : z.cells.size = K.k)
    {w : World} {o : Oper} {a : Act} {K' : Act → World → Prop} {Q : Exit → Act → World → Prop} (s x : Operand)
    (ho : o.op = .call { callee := .builtin .append, args := #[s, x], argTypes := #[T, T] })
    (base : Nat) (v : Value) (l : List α) (hs : a.eval s = v) (hown : OwnG K E w base v l)
    (sa : Option Addr) (m c : Nat) (src : List α) (hx : a.eval x = .slice sa m c) (hsrc : AtG K w sa m c src)
    (h48 : (l.length + m) * (by_ + 1) ≤ 140737488355328) (hbase : base ≤ w.heap.size) (r : Nat) (hr : r = l.length + m)
    (h : ∀ a' c' w', OwnG K E w' base (.slice a' r c') (l ++ src) → w.grownBy w' v.ownBlock → K' (a.put o.dst (.slice a' r c')) w') : o.wp Tryd.prog a w K' Q := by
  obtain ⟨a', c', w', hrun, h1, h2⟩ := run_appG K o.type hU hI hz w base v l hown sa m c src hsrc h48 hbase r hr
  exact Lib.wp_append_run _ s x _ _ ho _ _ hs hx _ _ hrun (h a' c' w' h1 h2)
theorem appG {α : Type} [Inhabited α] (K : Kind α) {T E : TypeId} {z : Value} {by_ : Nat} (hU : Tryd.prog.underlying T = some (.slice E)) (hI : (Tryd.prog.info? E).map (fun i => (i.zero, i.size, i.bytes)) = some (some z, K.k, by_)) (hz : z.cells.size = K.k)
    {w : World} {ops : Array Oper} {rest : List Oper} {o : Oper} {a : Act} {Q : Exit → Act → World → Prop} (hgd : o.guard = none) (s x : Operand)
    (ho : o.op = .call { callee := .builtin .append, args := #[s, x], argTypes := #[T, T] })
    (base : Nat) (v : Value) (l : List α) (hs : a.eval s = v) (hown : OwnG K E w base v l)
    (sa : Option Addr) (m c : Nat) (src : List α) (hx : a.eval x = .slice sa m c) (hsrc : AtG K w sa m c src)
    (h48 : (l.length + m) * (by_ + 1) ≤ 140737488355328) (hbase : base ≤ w.heap.size) (r : Nat) (hr : r = l.length + m)
    (h : ∀ a' c' w', OwnG K E w' base (.slice a' r c') (l ++ src) → w.grownBy w' v.ownBlock → wpList Tryd.prog ops Q rest (a.put o.dst (.slice a' r c')) w') : wpList Tryd.prog ops Q (o :: rest) a w :=
  wpList_plain hgd fun _ hK => wp_appG K hU hI hz s x ho base v l hs hown sa m c src hx hsrc h48 hbase r hr (fun a' c' w' h1 h2 => hK _ _ (h a' c' w' h1 h2))
#print axioms appG
#print axioms OwnG.store
end Go.Proofs.YtfoalaoanpbmeaaDoor
