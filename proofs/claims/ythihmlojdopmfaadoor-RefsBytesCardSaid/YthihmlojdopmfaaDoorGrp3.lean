/-
  Merged: SliceG, Tell, Row, RfHold.
-/
import Derived.Test.YthihmlojdopmfaaDoorProg
import Derived.Test.YthihmlojdopmfaaDoorGrp1
import Derived.WalkKit
import Derived.Maps.OwnSet
import Derived.Lib.AppendZeros
import Derived.Laws.OwnMore
import Derived.Laws.AppendOwnNone
import Derived.Deep.MidRow
import Derived.Test.YthihmlojdopmfaaDoorGrp2
import Derived.WalkSpells
import Derived.Lib.Hide
namespace Go.Proofs.YthihmlojdopmfaaDoor
open Go.RowKit

structure Kind (α : Type) where
 cells : α → List Value
 k : Nat
 ok : α → Prop
 pos : 0 < k
 len : ∀ x, ok x → (cells x).length = k
 one : ∀ x, ok x → ∀ v ∈ cells x, v.oneCell' = true
section
variable {α : Type} [Inhabited α] (K : Kind α)
def gd (L : List α) (i : Nat) : α := L.getD i default
theorem gd_mem {L : List α} {i : Nat} (h : i < L.length) : gd L i ∈ L := by
 have : gd L i = L[i] := by unfold gd; simp [h]
 rw [this]; exact List.getElem_mem h
def flatG (L : List α) : List Value := L.flatMap K.cells
omit [Inhabited α] in
theorem flatG_length {L : List α} (h : ∀ x ∈ L, K.ok x) : (flatG K L).length = L.length * K.k := by
 induction L with
 | nil => simp [flatG]
 | cons x T ih =>
  have h1 := K.len x (h x (by simp))
  have h2 := ih (fun y hy => h y (List.mem_cons_of_mem _ hy))
  unfold flatG at *
  rw [List.flatMap_cons, List.length_append, h1, h2, List.length_cons, Nat.succ_mul, Nat.add_comm]
omit [Inhabited α] in
theorem flatG_append (L M : List α) : flatG K (L ++ M) = flatG K L ++ flatG K M := by simp [flatG]
theorem flatG_at {L : List α} (h : ∀ x ∈ L, K.ok x) : ∀ (j i : Nat), j < L.length → i < K.k → (flatG K L)[j * K.k + i]? = (K.cells (gd L j))[i]? := by
 induction L with
 | nil => intro j i hj; simp at hj
 | cons x T ih =>
  intro j i hj hi
  have h1 := K.len x (h x (by simp))
  have e : flatG K (x :: T) = K.cells x ++ flatG K T := rfl
  rw [e]
  cases j with
  | zero =>
   rw [Nat.zero_mul, Nat.zero_add, List.getElem?_append_left (by omega)]
   rfl
  | succ j =>
   have e2 : (j + 1) * K.k + i = K.k + (j * K.k + i) := by rw [Nat.succ_mul]; omega
   rw [e2, List.getElem?_append_right (by omega), h1, Nat.add_sub_cancel_left]
   rw [ih (fun y hy => h y (List.mem_cons_of_mem _ hy)) j i (by simpa using hj) hi]
   rfl
omit [Inhabited α] in
theorem flatG_one {L : List α} (h : ∀ x ∈ L, K.ok x) : ∀ v ∈ flatG K L, v.oneCell' = true := fun v hv => by
 obtain ⟨x, hx, hv⟩ := List.mem_flatMap.1 hv
 exact K.one x (h x hx) v hv
theorem flatG_set {L : List α} (h : ∀ x ∈ L, K.ok x) : ∀ {j i : Nat} (_ : j < L.length) (_ : i < K.k) (v : Value) (y : α), K.cells y = (K.cells (gd L j)).set i v → (flatG K L).set (j * K.k + i) v = flatG K (L.set j y) := by
 induction L with
 | nil => intro j i hj; simp at hj
 | cons x T ih =>
  intro j i hj hi v y hy
  have h1 := K.len x (h x (by simp))
  have e : flatG K (x :: T) = K.cells x ++ flatG K T := rfl
  rw [e]
  cases j with
  | zero =>
   rw [Nat.zero_mul, Nat.zero_add, List.set_append_left _ _ (by omega), List.set_cons_zero]
   show _ = K.cells y ++ flatG K T
   rw [hy]
   rfl
  | succ j =>
   have e2 : (j + 1) * K.k + i = K.k + (j * K.k + i) := by rw [Nat.succ_mul]; omega
   rw [e2, List.set_append_right _ _ (by omega), h1, Nat.add_sub_cancel_left, List.set_cons_succ]
   rw [ih (fun z hz => h z (List.mem_cons_of_mem _ hz)) (by simpa using hj) hi v y hy]
   rfl

def AtG (w : World) (a : Option Addr) (n c : Nat) (L : List α) : Prop :=
 L.length = n ∧ n ≤ c ∧ c ≤ 9223372036854775807 ∧ (∀ x ∈ L, K.ok x) ∧ ((n = 0 ∧ c = 0) ∨ ∃ b off, a = some ⟨b, off, none⟩ ∧ ∀ j, j < n → w.rangeAt b (off + j * K.k) (K.cells (gd L j)))
def OwnG (E : TypeId) (w : World) (base : Nat) (v : Value) (L : List α) : Prop := w.ownsRow base E K.k v L.length (flatG K L) ∧ ∀ x ∈ L, K.ok x
end
section
variable {α : Type} [Inhabited α] {K : Kind α} {w w' : World} {a : Option Addr} {n c : Nat} {L : List α}
theorem AtG.nil : AtG K w none 0 0 [] := ⟨rfl, Nat.le_refl _, by omega, (fun _ h => by cases h), .inl ⟨rfl, rfl⟩⟩
theorem AtG.some_ (h : AtG K w a n c L) (hn : 0 < n) : ∃ b off, a = some ⟨b, off, none⟩ := by
 rcases h.2.2.2.2 with ⟨h0, _⟩ | ⟨b, off, ha, _⟩
 ·omega
 ·exact ⟨b, off, ha⟩
theorem AtG.at_ {b off : Nat} (h : AtG K w (some ⟨b, off, none⟩) n c L) (j : Nat) (hj : j < n) : w.rangeAt b (off + j * K.k) (K.cells (gd L j)) := by
 rcases h.2.2.2.2 with ⟨h0, _⟩ | ⟨b', off', ha, hc⟩
 ·omega
 ·simp only [Option.some.injEq, Addr.mk.injEq, and_true] at ha
  obtain ⟨rfl, rfl⟩ := ha
  exact hc j hj
theorem AtG.cell {b off : Nat} (h : AtG K w (some ⟨b, off, none⟩) n c L) (j : Nat) (hj : j < n) (i : Nat) (v : Value) (hv : (K.cells (gd L j))[i]? = some v) : w.cell? ⟨b, off + j * K.k + i, none⟩ = some v := h.at_ j hj i v hv
theorem AtG.below (h : AtG K w a n c L) (hb : Below w.heap.size w w') : AtG K w' a n c L := by
 obtain ⟨h1, h2, h3, h5, h4⟩ := h
 refine ⟨h1, h2, h3, h5, ?_⟩
 rcases h4 with h4 | ⟨b, off, ha, hc⟩
 ·exact .inl h4
 ·exact .inr ⟨b, off, ha, fun j hj i v hv => (hb.cell (World.block_lt_of_cell? _ _ (hc j hj i v hv))).trans (hc j hj i v hv)⟩
theorem AtG.ok (h : AtG K w a n c L) {j : Nat} (hj : j < n) : K.ok (gd L j) := h.2.2.2.1 _ (gd_mem (by have := h.1; omega))
theorem AtG.pick {b off : Nat} (h : AtG K w (some ⟨b, off, none⟩) n c L) (j : Nat) (u : Value) (hu : (flatG K L)[j]? = some u) : w.cell? ⟨b, off + j, none⟩ = some u := by
 have hjl : j < n * K.k := by
  have := (List.getElem?_eq_some_iff.1 hu).1
  rwa [flatG_length K h.2.2.2.1, h.1] at this
 have hj2 : j / K.k < n := Nat.div_lt_of_lt_mul (by rwa [Nat.mul_comm] at hjl)
 have hd : j / K.k * K.k + j % K.k = j := Nat.div_add_mod' j K.k
 have hu2 := flatG_at K h.2.2.2.1 (j / K.k) (j % K.k) (h.1 ▸ hj2) (Nat.mod_lt _ K.pos)
 rw [hd, hu] at hu2
 have := h.at_ (j / K.k) hj2 (j % K.k) u hu2.symm
 rwa [Nat.add_assoc, hd] at this
end
section
variable {α : Type} [Inhabited α] {K : Kind α} {E : TypeId} {w w' : World} {base : Nat} {v : Value} {L : List α} {a : Option Addr} {n c : Nat}
omit [Inhabited α] in
theorem OwnG.nil : OwnG K E w base (.slice none 0 0) [] := ⟨World.ownsRow_nil _ _ _ _, (fun _ h => by cases h)⟩
theorem OwnG.atG_ (h : OwnG K E w base v L) : ∃ a c, v = .slice a L.length c ∧ AtG K w a L.length c L := by
 obtain ⟨h0, hw⟩ := h
 have h0' := h0
 obtain ⟨h1, h2⟩ := h0
 rcases h2 with ⟨rfl, hn⟩ | ⟨g, cap, cur, rfl, hb, hg, hn, hm, hs, ht⟩
 ·have : L = [] := List.length_eq_zero_iff.1 hn
  subst this
  exact ⟨none, 0, rfl, AtG.nil⟩
 ·refine ⟨_, _, rfl, rfl, hn, by unfold maxLen at hm; omega, hw, .inr ⟨g, 0, rfl, fun j hj i u hu => ?_⟩⟩
  have hi : i < K.k := by
   have h3 := (List.getElem?_eq_some_iff.1 hu).1
   rwa [K.len _ (hw _ (gd_mem hj))] at h3
  have := h0'.cells (g := g) rfl (j * K.k + i) u (by rw [flatG_at K hw j i hj hi]; exact hu)
  rw [Addr.add_lit] at this
  rw [Nat.zero_add] at this ⊢
  exact this
theorem OwnG.atG (h : OwnG K E w base (.slice a n c) L) : AtG K w a n c L := by
 obtain ⟨a', c', hv, hb⟩ := h.atG_
 simp only [Value.slice.injEq] at hv
 obtain ⟨rfl, rfl, rfl⟩ := hv
 exact hb
theorem OwnG.len (h : OwnG K E w base (.slice a n c) L) : L.length = n := h.atG.1
omit [Inhabited α] in
theorem OwnG.lt (h : OwnG K E w base v L) : ∀ k, v.ownBlock = some k → base ≤ k ∧ k < w.heap.size := fun k hk => World.ownsRow.lt h.1 k hk
omit [Inhabited α] in
theorem OwnG.alloc (h : OwnG K E w base v L) (o : Obj) : OwnG K E (w.alloc o) base v L := ⟨World.ownsRow.alloc h.1 o, h.2⟩
omit [Inhabited α] in
theorem OwnG.kept {row : Option Nat} (h : OwnG K E w base v L) (hg : w.grownBy w' row) (hne : v.ownBlock = none ∨ v.ownBlock ≠ row) : OwnG K E w' base v L := ⟨World.ownsRow.kept h.1 hg hne, h.2⟩
omit [Inhabited α] in
theorem OwnG.below (h : OwnG K E w base v L) (hb : Below w.heap.size w w') : OwnG K E w' base v L := by
 obtain ⟨⟨h1, h2⟩, h3⟩ := h
 refine ⟨⟨h1, ?_⟩, h3⟩
 rcases h2 with h2 | ⟨g, cap, cur, hv, hg, hh, r⟩
 ·exact .inl h2
 ·refine .inr ⟨g, cap, cur, hv, hg, ?_, r⟩
  have hlt : g < w.heap.size := by
   rcases Nat.lt_or_ge g w.heap.size with h | h
   ·exact h
   ·rw [Array.getElem?_eq_none h] at hh; cases hh
  rw [hb.block g hlt]; exact hh
omit [Inhabited α] in
theorem OwnG.mono {base' : Nat} (h : OwnG K E w base v L) (hb : base' ≤ base) : OwnG K E w base' v L := by
 obtain ⟨⟨h1, h2⟩, h3⟩ := h
 refine ⟨⟨h1, ?_⟩, h3⟩
 rcases h2 with h2 | ⟨g, cap, cur, hv, hg, r⟩
 ·exact .inl h2
 ·exact .inr ⟨g, cap, cur, hv, by omega, r⟩
omit [Inhabited α] in
theorem OwnG.row (h : OwnG K E w base (.slice a n c) L) (hn : 0 < n) : ∃ g, a = some ⟨g, 0, none⟩ ∧ base ≤ g ∧ g < w.heap.size ∧ (∀ j, w.frozen? ⟨g, j, none⟩ = false) := by
 have h0 := h.1
 obtain ⟨⟨h1, h2⟩, _⟩ := h
 rcases h2 with ⟨hv, hz⟩ | ⟨g, cap, cur, hv, hb, hg, hle, hm, hs, ht⟩
 ·simp only [Value.slice.injEq] at hv; omega
 ·simp only [Value.slice.injEq] at hv
  obtain ⟨rfl, rfl, rfl⟩ := hv
  have hlt : g < w.heap.size := by
   rcases Nat.lt_or_ge g w.heap.size with h | h
   ·exact h
   ·rw [Array.getElem?_eq_none h] at hg; cases hg
  exact ⟨g, rfl, hb, hlt, fun j => World.ownsRow.frozenAt h0 j⟩
theorem OwnG.store {g j i : Nat} (h : OwnG K E w base (.slice (some ⟨g, 0, none⟩) n c) L) (hj : j < n) (hi : i < K.k) (u : Value) (y : α) (hy : K.cells y = (K.cells (gd L j)).set i u) (hok : K.ok y) :
  OwnG K E (w.setCell ⟨g, j * K.k + i, none⟩ u) base (.slice (some ⟨g, 0, none⟩) n c) (L.set j y) := by
 have hn := h.len
 subst hn
 refine ⟨?_, fun x hx => ?_⟩
 ·have := (World.ownsRow.stored h.1 (j * K.k + i) u).1
  rw [List.length_set, ← flatG_set K h.2 hj hi u y hy]
  exact this
 ·rcases List.mem_or_eq_of_mem_set hx with hx | rfl
  ·exact h.2 x hx
  ·exact hok
omit [Inhabited α] in
theorem OwnG.lit (hE : L = []) (cs : Array Value) (hcs : cs = #[]) : OwnG K E (w.alloc (.cells cs E)) w.heap.size (.slice (some ⟨w.heap.size, 0, none⟩) 0 0) L := by
 subst hE hcs
 exact ⟨World.ownsRow_lit w #[] 0 (Nat.le_refl _) (Nat.zero_le _) (Nat.zero_mul _).symm, fun _ h => by cases h⟩
theorem oneG (w : World) (x : α) (hx : K.ok x) (E : TypeId) (cs : Array Value) (hcs : cs = (K.cells x).toArray) : AtG K (w.alloc (.cells cs E)) (some ⟨w.heap.size, 0, none⟩) 1 1 [x] := by
 subst hcs
 refine ⟨rfl, Nat.le_refl _, by omega, fun y hy => by simp at hy; rw [hy]; exact hx, .inr ⟨_, _, rfl, fun j hj i v hv => ?_⟩⟩
 obtain rfl : j = 0 := by omega
 have e : gd [x] 0 = x := rfl
 rw [e] at hv
 rw [Nat.zero_mul, Nat.zero_add, World.cell?_alloc_new]
 simpa using hv
end

theorem run_appG {α : Type} [Inhabited α] (K : Kind α) {T E : TypeId} {z : Value} {by_ : Nat} (ty : TypeId) (hU : Tryd.prog.underlying T = some (.slice E)) (hI : (Tryd.prog.info? E).map (fun i => (i.zero, i.size, i.bytes)) = some (some z, K.k, by_)) (hz : z.cells.size = K.k)
  (w : World) (base : Nat) (v : Value) (l : List α) (hown : OwnG K E w base v l) (sa : Option Addr) (m c : Nat) (src : List α) (hsrc : AtG K w sa m c src) (h48 : (l.length + m) * (by_ + 1) ≤ 140737488355328) (hbase : base ≤ w.heap.size) (r : Nat) (hr : r = l.length + m) :
  ∃ a' c' w', (Builtin.append_ #[T, T] ty #[v, .slice sa m c]).run Tryd.prog w = .ok (.slice a' r c') w' ∧ OwnG K E w' base (.slice a' r c') (l ++ src) ∧ w.grownBy w' v.ownBlock := by
 obtain ⟨i0, hi, hz0, hz1, hz2⟩ := info_parts hI
 obtain ⟨h1, h2, h3, h5, h4⟩ := id hsrc
 have e48 : (l.length + m) * by_ ≤ 140737488355328 := Nat.le_trans (Nat.mul_le_mul_left _ (by omega)) h48
 have e63 : l.length + m ≤ 140737488355328 := Nat.le_trans (Nat.le_mul_of_pos_right _ (by omega)) h48
 have hW : ∀ y ∈ l ++ src, K.ok y := fun y hy => by
  rcases List.mem_append.1 hy with h | h
  ·exact hown.2 y h
  ·exact h5 y h
 have fin : ∀ v' w', (Builtin.append_ #[T, T] ty #[v, .slice sa m c]).run Tryd.prog w = .ok v' w' → OwnG K E w' base v' (l ++ src) → w.grownBy w' v.ownBlock →
   ∃ a' c' w', (Builtin.append_ #[T, T] ty #[v, .slice sa m c]).run Tryd.prog w = .ok (.slice a' r c') w' ∧ OwnG K E w' base (.slice a' r c') (l ++ src) ∧ w.grownBy w' v.ownBlock := by
  intro v' w' hrun hO hg
  obtain ⟨a', c', rfl, _⟩ := hO.atG_
  have e : (l ++ src).length = r := by rw [List.length_append, h1, hr]
  rw [e] at hO hrun
  exact ⟨a', c', w', hrun, hO, hg⟩
 rcases h4 with ⟨rfl, rfl⟩ | ⟨b, off, rfl, hc⟩
 ·have : src = [] := List.length_eq_zero_iff.1 h1
  subst this
  cases sa with
  | none => exact fin v w (run_append_owned_none (P := Tryd.prog) _ base T ty E i0 K.k hU hi _ _ _ hown.1) (by rw [List.append_nil]; exact hown) ⟨rfl, rfl, rfl, Nat.le_refl _, fun _ _ _ => rfl⟩
  | some ad =>
   obtain ⟨v', w', hrun, h6, h7, _⟩ := run_append_own (P := Tryd.prog) _ base T ty E i0 z K.k by_ hU hi hz0 hz1 hz2 hz K.pos _ _ _ hown.1 ad 0 0 [] (by simp) (by simp) (by simp) (by unfold maxLen; omega) (by simpa using e48) hbase
   exact fin v' w' hrun (by rw [List.append_nil]; exact ⟨by simpa using h6, hown.2⟩) h7
 ·obtain ⟨v', w', hrun, h6, h7, _⟩ := run_append_own (P := Tryd.prog) _ base T ty E i0 z K.k by_ hU hi hz0 hz1 hz2 hz K.pos _ _ _ hown.1 ⟨b, off, none⟩ m c (flatG K src) (by rw [flatG_length K h5, h1]) (fun j u hu => by
   rw [Addr.add_lit]
   exact hsrc.pick j u hu) (flatG_one K h5) (by unfold maxLen; omega) e48 hbase
  refine fin v' w' hrun ⟨?_, hW⟩ h7
  rw [List.length_append, flatG_append, h1]
  exact h6
theorem wp_appG {α : Type} [Inhabited α] (K : Kind α) {T E : TypeId} {z : Value} {by_ : Nat} (hU : Tryd.prog.underlying T = some (.slice E)) (hI : (Tryd.prog.info? E).map (fun i => (i.zero, i.size, i.bytes)) = some (some z, K.k, by_)) (hz : z.cells.size = K.k)
  {w : World} {o : Oper} {a : Act} {K' : Act → World → Prop} {Q : Exit → Act → World → Prop} (s x : Operand)
  (ho : o.op = .call { callee := .builtin .append, args := #[s, x], argTypes := #[T, T] })
  (base : Nat) (v : Value) (l : List α) (hs : a.eval s = v) (hown : OwnG K E w base v l)
  (sa : Option Addr) (m c : Nat) (src : List α) (hx : a.eval x = .slice sa m c) (hsrc : AtG K w sa m c src)
  (h48 : (l.length + m) * (by_ + 1) ≤ 140737488355328) (hbase : base ≤ w.heap.size) (r : Nat) (hr : r = l.length + m)
  (h : ∀ a' c' w', OwnG K E w' base (.slice a' r c') (l ++ src) → w.grownBy w' v.ownBlock → K' (a.put o.dst (.slice a' r c')) w') : o.wp Tryd.prog a w K' Q := by
 obtain ⟨a', c', w', hrun, h1, h2⟩ := run_appG K o.type hU hI hz w base v l hown sa m c src hsrc h48 hbase r hr
 exact Lib.wp_append_run _ s x _ _ ho _ _ hs hx _ _ hrun (h a' c' w' h1 h2)
theorem appG {α : Type} [Inhabited α] (K : Kind α) {T E : TypeId} {z : Value} {by_ : Nat} (hU : Tryd.prog.underlying T = some (.slice E)) (hI : (Tryd.prog.info? E).map (fun i => (i.zero, i.size, i.bytes)) = some (some z, K.k, by_)) (hz : z.cells.size = K.k)
  {w : World} {ops : Array Oper} {rest : List Oper} {o : Oper} {a : Act} {Q : Exit → Act → World → Prop} (hgd : o.guard = none) (s x : Operand)
  (ho : o.op = .call { callee := .builtin .append, args := #[s, x], argTypes := #[T, T] })
  (base : Nat) (v : Value) (l : List α) (hs : a.eval s = v) (hown : OwnG K E w base v l)
  (sa : Option Addr) (m c : Nat) (src : List α) (hx : a.eval x = .slice sa m c) (hsrc : AtG K w sa m c src)
  (h48 : (l.length + m) * (by_ + 1) ≤ 140737488355328) (hbase : base ≤ w.heap.size) (r : Nat) (hr : r = l.length + m)
  (h : ∀ a' c' w', OwnG K E w' base (.slice a' r c') (l ++ src) → w.grownBy w' v.ownBlock → wpList Tryd.prog ops Q rest (a.put o.dst (.slice a' r c')) w') : wpList Tryd.prog ops Q (o :: rest) a w :=
 wpList_plain hgd fun _ hK => wp_appG K hU hI hz s x ho base v l hs hown sa m c src hx hsrc h48 hbase r hr (fun a' c' w' h1 h2 => hK _ _ (h a' c' w' h1 h2))
end Go.Proofs.YthihmlojdopmfaaDoor

namespace Go.Proofs.YthihmlojdopmfaaDoor
open Go.RowKit

def Apart (u v : Value) : Prop := ∀ k, u.ownBlock = some k → v.ownBlock ≠ some k

def Told (w : World) (v v' : Value) : Prop := v'.ownBlock = v.ownBlock ∨ ∃ k, v'.ownBlock = some k ∧ w.heap.size ≤ k

theorem Apart.symm {u v : Value} (h : Apart u v) : Apart v u := fun k hk hu => h k hu hk

theorem Apart.told {w : World} {u v v' : Value} (h : Apart u v) (ht : Told w v v') (hlt : ∀ k, u.ownBlock = some k → k < w.heap.size) : Apart u v' := by
 intro k hk hv
 rcases ht with e | ⟨m, hm, hle⟩
 ·rw [e] at hv; exact h k hk hv
 ·rw [hm] at hv
  have := hlt k hk
  cases hv
  omega

theorem Apart.kept {u v : Value} (h : Apart u v) : u.ownBlock = none ∨ u.ownBlock ≠ v.ownBlock := by
 cases hu : u.ownBlock with
 | none => exact .inl rfl
 | some k => exact .inr (fun e => h k hu e.symm)

section
variable {P : Program} (w : World)
theorem run_append_tell (base : Nat) (t ty e : TypeId) (i : TypeInfo) (z : Value) (size bytes : Nat) (ht : P.underlying t = some (.slice e)) (hi : P.info? e = some i) (hz : i.zero = some z)
  (hsize : i.size = size) (hby : i.bytes = bytes) (hzs : z.cells.size = size) (hsz : 0 < size)
  (v : Value) (n : Nat) (xs : List Value) (hown : w.ownsRow base e size v n xs)
  (a : Addr) (m c : Nat) (news : List Value) (hl : news.length = m * size) (hnews : ∀ j u, news[j]? = some u → w.cell? (a.add j) = some u) (h1 : ∀ u ∈ news, u.oneCell' = true)
  (h63 : n + m ≤ maxLen) (hbytes : (n + m) * bytes ≤ 140737488355328) (hbase : base ≤ w.heap.size) :
  ∃ v' w', (Builtin.append_ #[t, t] ty #[v, .slice (some a) m c]).run P w = .ok v' w' ∧ w'.ownsRow base e size v' (n + m) (xs ++ news) ∧ w.grownBy w' v.ownBlock ∧ Told w v v' := by
 obtain ⟨v', w', hr, ho, hg, hz2⟩ := run_append_own w base t ty e i z size bytes ht hi hz hsize hby hzs hsz v n xs hown a m c news hl hnews h1 h63 hbytes hbase
 refine ⟨v', w', hr, ho, hg, ?_⟩
 have hown0 := hown
 rcases hown.2 with ⟨rfl, rfl⟩ | ⟨g, cap, cur, rfl, hbg, hgg, hnc, hcm, hcs, htake⟩
 ·obtain ⟨v2, w2, hr2, ho2, _⟩ := run_append_own w w.heap.size t ty e i z size bytes ht hi hz hsize hby hzs hsz _ 0 xs ⟨hown.1, .inl ⟨rfl, rfl⟩⟩ a m c news hl hnews h1 h63 hbytes (Nat.le_refl _)
  rw [hr] at hr2
  cases hr2
  cases hv : v'.ownBlock with
  | none => exact .inl (hv.trans rfl)
  | some k => exact .inr ⟨k, hv, (World.ownsRow.lt ho2 k hv).1⟩
 ·subst hsize
  subst hby
  by_cases hroom : n + m ≤ cap
  ·have hfit : n * i.size + news.length ≤ cur.size := by rw [hl, hcs, ← Nat.add_mul]; exact Nat.mul_le_mul_right _ hroom
   have hr2 := run_append_room (P := P) w t ty e i ht hi g n cap cur hgg a m c news hl hnews h1 hroom hfit
   rw [hr] at hr2
   cases hr2
   exact .inl rfl
  ·have holds : ∀ j u, xs[j]? = some u → w.cell? ((⟨g, 0, none⟩ : Addr).add j) = some u := hown0.cells (g := g) rfl
   have hr2 := run_append_grow (P := P) w t ty e i z ht hi hz ⟨g, 0, none⟩ n cap xs hown0.1 holds a m c news hl hnews (by omega) (by simp only [maxLen] at h63; omega) (growslice_fits (by omega) hbytes)
   rw [hr] at hr2
   cases hr2
   exact .inr ⟨_, rfl, Nat.le_refl _⟩
end

end Go.Proofs.YthihmlojdopmfaaDoor

namespace Go.Proofs.YthihmlojdopmfaaDoor
open Go.RowKit

def RowAt (w : World) (g : Nat) (t : TypeId) (cs : List Value) : Prop := w.heap[g]? = some (.cells cs.toArray t (0, 0))



theorem RowAt.lt {w : World} {g : Nat} {t : TypeId} {cs : List Value} (h : RowAt w g t cs) : g < w.heap.size := by
 rcases Nat.lt_or_ge g w.heap.size with h' | h'
 ·exact h'
 ·unfold RowAt at h
  rw [Array.getElem?_eq_none h'] at h; cases h

theorem RowAt.cell {w : World} {g : Nat} {t : TypeId} {cs : List Value} (h : RowAt w g t cs) (j : Nat) {v : Value} (hj : cs[j]? = some v) : w.cell? ⟨g, j, none⟩ = some v := by
 rw [cell_of_row w g j cs.toArray t (0, 0) h]; simpa using hj

theorem RowAt.free {w : World} {g : Nat} {t : TypeId} {cs : List Value} (h : RowAt w g t cs) (j : Nat) : w.frozen? ⟨g, j, none⟩ = false := frozen_of_row w g j cs.toArray t h

theorem RowAt.set {w : World} {g : Nat} {t : TypeId} {cs : List Value} (h : RowAt w g t cs) (j : Nat) (v : Value) : RowAt (w.setCell ⟨g, j, none⟩ v) g t (cs.set j v) := by
 unfold RowAt
 rw [heap_setCell_same w g j cs.toArray t v h]
 simp

theorem RowAt.below {w w' : World} {g : Nat} {t : TypeId} {cs : List Value} (h : RowAt w g t cs) (hb : Below w.heap.size w w') : RowAt w' g t cs := by
 unfold RowAt; rw [hb.block g h.lt]; exact h

theorem RowAt.other {w : World} {g : Nat} {t : TypeId} {cs : List Value} (h : RowAt w g t cs) {a : Addr} (ha : g ≠ a.block) (v : Value) : RowAt (w.setCell a v) g t cs := by
 unfold RowAt; rw [heap_setCell_other w a g v ha]; exact h

theorem RowAt.grown {w w' : World} {g : Nat} {t : TypeId} {cs : List Value} {row : Option Nat} (h : RowAt w g t cs) (hg : w.grownBy w' row) (hr : some g ≠ row) : RowAt w' g t cs := by
 unfold RowAt; rw [hg.block g h.lt hr]; exact h

theorem RowAt.drew {w : World} {g : Nat} {t : TypeId} {cs : List Value} (h : RowAt w g t cs) : RowAt w.drew g t cs := h

theorem alloc_row {w : World} {ops : Array Oper} {rest : List Oper} {o : Oper} {a : Act} {Q : Exit → Act → World → Prop} (hgd : o.guard = none) (t : TypeId) (cs : List Value) (ho : o.op = .alloc t)
  (hz : ∀ w : World, (zeroValue t).run Tryd.prog w = .ok (.agg cs.toArray) w)
  (h : ∀ w1, RowAt w1 w.heap.size t cs → Below w.heap.size w w1 → w1.heap.size = w.heap.size + 1 → wpList Tryd.prog ops Q rest (a.put o.dst (.pointer (some ⟨w.heap.size, 0, none⟩))) w1) :
  wpList Tryd.prog ops Q (o :: rest) a w := by
 have hr : (Instr.alloc t true (.tuple #[])).run Tryd.prog w = .ok (.pointer (some ⟨w.heap.size, 0, none⟩)) (w.alloc (.cells cs.toArray t)) := by
  unfold Instr.alloc
  simp only [Sem.run_bind, hz w, Result.andThen_ok]
  rfl
 refine wpList_ok (w' := w.alloc (.cells cs.toArray t)) hgd ?_ (h _ (heap_alloc_new w _) ((Below.refl _ _).alloc (Nat.le_refl _) _) (by simp))
 unfold execOp
 simp only [ho, Sem.run_bind, hr, Result.andThen_ok, Sem.run_pure]

theorem run_load_row {w : World} {ty : TypeId} {g : Nat} {t : TypeId} {cs : List Value} {d : TypeDesc} (hg : RowAt w g t cs) (hu : Tryd.prog.underlying ty = some d) (hd : d.isRow = true)
  (hi : (Tryd.prog.info? ty).map (·.size) = some cs.length) : (loadVar ty ⟨g, 0, none⟩).run Tryd.prog w = .ok (.agg cs.toArray) w :=
 run_loadVar_mid (P := Tryd.prog) w g 0 ty cs d (fun j v hj => by rw [Nat.zero_add]; exact hg.cell j hj) hu hd hi

theorem RowAt.range {w : World} {g : Nat} {t : TypeId} {cs l m r : List Value} (h : RowAt w g t cs) (hcs : cs = l ++ (m ++ r)) : w.rangeAt g l.length m := fun j v hj => by
 refine h.cell _ ?_
 rw [hcs, List.getElem?_append_right (by omega), show l.length + j - l.length = j from by omega, List.getElem?_append_left (List.getElem?_eq_some_iff.1 hj).1]
 exact hj
theorem results_row {fn : Func} {p : Tmp} {ty : TypeId} (h : fn.results = #[.cell p ty]) (tmps : Array Value) (w : World) (g : Nat) (t : TypeId) (cs : List Value) (d : TypeDesc)
  (hp : tmps.getD p undef = .pointer (some ⟨g, 0, none⟩)) (hg : RowAt w g t cs) (hu : Tryd.prog.underlying ty = some d) (hd : d.isRow = true) (hi : (Tryd.prog.info? ty).map (·.size) = some cs.length) :
  (results fn tmps).run Tryd.prog w = .ok (.agg cs.toArray) w := by
 have hp' : tmps[p]?.getD undef = .pointer (some ⟨g, 0, none⟩) := by simpa using hp
 simp [results, h, hp', asAddr, run_load_row hg hu hd hi]
end Go.Proofs.YthihmlojdopmfaaDoor

namespace Go.Proofs.YthihmlojdopmfaaDoor
open Go.RowKit

structure Hold where
 E : TypeId
 k : Nat
 v : Value
 n : Nat
 cs : List Value
def Hold.At (w : World) (base : Nat) (h : Hold) : Prop := w.ownsRow base h.E h.k h.v h.n h.cs
structure Holds (w : World) (base : Nat) (L : List Hold) : Prop where
 own : ∀ h ∈ L, h.At w base
 two : L.Pairwise fun a b => Apart a.v b.v
section
variable {w w' : World} {base : Nat} {L L1 L2 : List Hold} {h h' : Hold}
theorem rows_below {E : TypeId} {k n : Nat} {v : Value} {cs : List Value} (h : w.ownsRow base E k v n cs) (hb : Below w.heap.size w w') : w'.ownsRow base E k v n cs := by
 obtain ⟨h1, h2⟩ := h
 refine ⟨h1, ?_⟩
 rcases h2 with h2 | ⟨g, cap, cur, hv, hg, hh, r⟩
 ·exact .inl h2
 ·refine .inr ⟨g, cap, cur, hv, hg, ?_, r⟩
  have hlt : g < w.heap.size := by
   rcases Nat.lt_or_ge g w.heap.size with h | h
   ·exact h
   ·rw [Array.getElem?_eq_none h] at hh; cases hh
  rw [hb.block g hlt]; exact hh
theorem rows_mono {E : TypeId} {k n base' : Nat} {v : Value} {cs : List Value} (h : w.ownsRow base E k v n cs) (hb : base' ≤ base) : w.ownsRow base' E k v n cs := by
 obtain ⟨h1, h2⟩ := h
 refine ⟨h1, ?_⟩
 rcases h2 with h2 | ⟨g, cap, cur, hv, hg, r⟩
 ·exact .inl h2
 ·exact .inr ⟨g, cap, cur, hv, by omega, r⟩
theorem Holds.lt (H : Holds w base L) (hm : h ∈ L) : ∀ k, h.v.ownBlock = some k → base ≤ k ∧ k < w.heap.size := World.ownsRow.lt (H.own h hm)
theorem Holds.nil : Holds w base [] := ⟨(fun _ h => by cases h), .nil⟩
theorem Holds.below (H : Holds w base L) (hb : Below w.heap.size w w') : Holds w' base L := ⟨fun h hm => rows_below (H.own h hm) hb, H.two⟩
theorem Holds.perm (H : Holds w base L) (hp : L.Perm L1) : Holds w base L1 := ⟨fun h hm => H.own h (hp.mem_iff.2 hm), (hp.pairwise_iff (fun {_ _} h => Apart.symm h)).1 H.two⟩
theorem Holds.sub (H : Holds w base L) (hs : L1.Sublist L) : Holds w base L1 := ⟨fun h hm => H.own h (hs.subset hm), H.two.sublist hs⟩
theorem Holds.add (H : Holds w base L) (ho : h.At w' w.heap.size) (hb : Below w.heap.size w w') (hbase : base ≤ w.heap.size) : Holds w' base (h :: L) := by
 refine ⟨fun x hx => ?_, List.pairwise_cons.2 ⟨fun x hx k hk hxk => ?_, H.two⟩⟩
 ·rcases List.mem_cons.1 hx with rfl | hx
  ·exact rows_mono ho hbase
  ·exact (H.below hb).own x hx
 ·have h1 := (World.ownsRow.lt ho k hk).1
  have h2 := (H.lt hx k hxk).2
  omega
theorem Holds.put (H : Holds w base (h :: L)) (hg : w.grownBy w' h.v.ownBlock) (ho : h'.At w' base) (ht : Told w h.v h'.v) : Holds w' base (h' :: L) := by
 obtain ⟨h1, h2⟩ := List.pairwise_cons.1 H.two
 refine ⟨fun x hx => ?_, List.pairwise_cons.2 ⟨fun x hx => ?_, h2⟩⟩
 ·rcases List.mem_cons.1 hx with rfl | hx
  ·exact ho
  ·exact World.ownsRow.kept (H.own x (List.mem_cons_of_mem _ hx)) hg (Apart.symm (h1 x hx)).kept
 ·exact Apart.symm (Apart.told (Apart.symm (h1 x hx)) ht (fun k hk => (H.lt (List.mem_cons_of_mem _ hx) k hk).2))
end
abbrev hG {α : Type} (K : Kind α) (E : TypeId) (v : Value) (L : List α) : Hold := ⟨E, K.k, v, L.length, flatG K L⟩

theorem run_appG_told {α : Type} [Inhabited α] (K : Kind α) {T E : TypeId} {z : Value} {by_ : Nat} (ty : TypeId) (hU : Tryd.prog.underlying T = some (.slice E)) (hI : (Tryd.prog.info? E).map (fun i => (i.zero, i.size, i.bytes)) = some (some z, K.k, by_)) (hz : z.cells.size = K.k)
  (w : World) (base : Nat) (v : Value) (l : List α) (hown : OwnG K E w base v l) (sa : Option Addr) (m c : Nat) (src : List α) (hsrc : AtG K w sa m c src) (h48 : (l.length + m) * (by_ + 1) ≤ 140737488355328) (hbase : base ≤ w.heap.size) (r : Nat) (hr : r = l.length + m) :
  ∃ a' c' w', (Builtin.append_ #[T, T] ty #[v, .slice sa m c]).run Tryd.prog w = .ok (.slice a' r c') w' ∧ OwnG K E w' base (.slice a' r c') (l ++ src) ∧ w.grownBy w' v.ownBlock ∧ Told w v (.slice a' r c') := by
 obtain ⟨i0, hi, hz0, hz1, hz2⟩ := info_parts hI
 obtain ⟨h1, h2, h3, h5, h4⟩ := id hsrc
 have e48 : (l.length + m) * by_ ≤ 140737488355328 := Nat.le_trans (Nat.mul_le_mul_left _ (by omega)) h48
 have e63 : l.length + m ≤ 140737488355328 := Nat.le_trans (Nat.le_mul_of_pos_right _ (by omega)) h48
 have hW : ∀ y ∈ l ++ src, K.ok y := fun y hy => by
  rcases List.mem_append.1 hy with h | h
  ·exact hown.2 y h
  ·exact h5 y h
 have fin : ∀ v' w', (Builtin.append_ #[T, T] ty #[v, .slice sa m c]).run Tryd.prog w = .ok v' w' → OwnG K E w' base v' (l ++ src) → w.grownBy w' v.ownBlock → Told w v v' →
   ∃ a' c' w', (Builtin.append_ #[T, T] ty #[v, .slice sa m c]).run Tryd.prog w = .ok (.slice a' r c') w' ∧ OwnG K E w' base (.slice a' r c') (l ++ src) ∧ w.grownBy w' v.ownBlock ∧ Told w v (.slice a' r c') := by
  intro v' w' hrun hO hg ht
  obtain ⟨a', c', rfl, _⟩ := hO.atG_
  have e : (l ++ src).length = r := by rw [List.length_append, h1, hr]
  rw [e] at hO hrun ht
  exact ⟨a', c', w', hrun, hO, hg, ht⟩
 rcases h4 with ⟨rfl, rfl⟩ | ⟨b, off, rfl, hc⟩
 ·have : src = [] := List.length_eq_zero_iff.1 h1
  subst this
  cases sa with
  | none => exact fin v w (run_append_owned_none (P := Tryd.prog) _ base T ty E i0 K.k hU hi _ _ _ hown.1) (by rw [List.append_nil]; exact hown) ⟨rfl, rfl, rfl, Nat.le_refl _, fun _ _ _ => rfl⟩ (.inl rfl)
  | some ad =>
   obtain ⟨v', w', hrun, h6, h7, h8⟩ := run_append_tell (P := Tryd.prog) w base T ty E i0 z K.k by_ hU hi hz0 hz1 hz2 hz K.pos _ _ _ hown.1 ad 0 0 [] (by simp) (by simp) (by simp) (by unfold maxLen; omega) (by simpa using e48) hbase
   exact fin v' w' hrun (by rw [List.append_nil]; exact ⟨by simpa using h6, hown.2⟩) h7 h8
 ·obtain ⟨v', w', hrun, h6, h7, h8⟩ := run_append_tell (P := Tryd.prog) w base T ty E i0 z K.k by_ hU hi hz0 hz1 hz2 hz K.pos _ _ _ hown.1 ⟨b, off, none⟩ m c (flatG K src) (by rw [flatG_length K h5, h1]) (fun j u hu => by
   rw [Addr.add_lit]
   exact hsrc.pick j u hu) (flatG_one K h5) (by unfold maxLen; omega) e48 hbase
  refine fin v' w' hrun ⟨?_, hW⟩ h7 h8
  rw [List.length_append, flatG_append, h1]
  exact h6
theorem appG_told {α : Type} [Inhabited α] (K : Kind α) {T E : TypeId} {z : Value} {by_ : Nat} (hU : Tryd.prog.underlying T = some (.slice E)) (hI : (Tryd.prog.info? E).map (fun i => (i.zero, i.size, i.bytes)) = some (some z, K.k, by_)) (hz : z.cells.size = K.k)
  {w : World} {ops : Array Oper} {rest : List Oper} {o : Oper} {a : Act} {Q : Exit → Act → World → Prop} (hgd : o.guard = none) (s x : Operand)
  (ho : o.op = .call { callee := .builtin .append, args := #[s, x], argTypes := #[T, T] })
  (base : Nat) (v : Value) (l : List α) (hs : a.eval s = v) (hown : OwnG K E w base v l)
  (sa : Option Addr) (m c : Nat) (src : List α) (hx : a.eval x = .slice sa m c) (hsrc : AtG K w sa m c src)
  (h48 : (l.length + m) * (by_ + 1) ≤ 140737488355328) (hbase : base ≤ w.heap.size) (r : Nat) (hr : r = l.length + m)
  (h : ∀ a' c' w', OwnG K E w' base (.slice a' r c') (l ++ src) → w.grownBy w' v.ownBlock → Told w v (.slice a' r c') → wpList Tryd.prog ops Q rest (a.put o.dst (.slice a' r c')) w') : wpList Tryd.prog ops Q (o :: rest) a w := by
 obtain ⟨a', c', w', hrun, h1, h2, h3⟩ := run_appG_told K o.type hU hI hz w base v l hown sa m c src hsrc h48 hbase r hr
 exact wpList_plain hgd fun _ hK => Lib.wp_append_run _ s x _ _ ho _ _ hs hx _ _ hrun (hK _ _ (h a' c' w' h1 h2 h3))
section
variable {w w' : World} {base : Nat} {L : List Hold} {g0 : Nat} {h : Hold}
theorem Holds.mono {base' : Nat} (H : Holds w base L) (hb : base' ≤ base) : Holds w base' L := ⟨fun h hm => rows_mono (H.own h hm) hb, H.two⟩
theorem Holds.alike (H : Holds w base L) (h : ∀ k, base ≤ k → k < w.heap.size → w'.heap[k]? = w.heap[k]?) : Holds w' base L := ⟨fun x hx => by
 obtain ⟨h1, h2⟩ := H.own x hx
 refine ⟨h1, ?_⟩
 rcases h2 with h2 | ⟨g, cap, cur, hv, hg, hh, r⟩
 ·exact .inl h2
 ·refine .inr ⟨g, cap, cur, hv, hg, ?_, r⟩
  have hlt : g < w.heap.size := by
   rcases Nat.lt_or_ge g w.heap.size with h | h
   ·exact h
   ·rw [Array.getElem?_eq_none h] at hh; cases hh
  rw [h g hg hlt]; exact hh, H.two⟩
end
end Go.Proofs.YthihmlojdopmfaaDoor
