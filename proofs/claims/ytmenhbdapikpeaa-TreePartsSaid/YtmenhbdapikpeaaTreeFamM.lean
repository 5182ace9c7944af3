/-
  What family keeps in memory: the keys' row, the struct of the children, its two rows of numbers.
-/
import Derived.Test.YtmenhbdapikpeaaTreeBlk
import Derived.Test.YtmenhbdapikpeaaSortKeys
namespace Go.Proofs.Ytmenhbdapikpeaa
open Go.RowKit

/-- A place, or none: told by one more. -/
def M (x : Nat) : Value := .int .i64 ((x : Int) - 1)
theorem infoM : (Try.prog.info? 3).map (fun i => (i.zero, i.size, i.bytes)) = some (some (M 1), 1, 8) := by kernel_rfl
theorem M_none : M 0 = .int .i64 (-1) := rfl
theorem M_place (x : Nat) : M (x + 1) = .int .i64 (x : Int) := by
  unfold M
  rw [show ((x + 1 : Nat) : Int) - 1 = x from by omega]
theorem oneM (x : Nat) : (M x).oneCell' = true := rfl
abbrev pA (g : Nat) : Option Addr := some ⟨g, 0, none⟩

/-- Keys that are being copied, one behind the other. -/
structure KeyRow (w : World) (g n : Nat) (K : List KeyV) (j : Nat) : Prop where
  lt : g < w.heap.size
  room : w.there g 0 (n * 34)
  done : ∀ k, k < j → w.rangeAt g (k * 34) (keyL (kOf K k))
theorem heap_kept {w w' : World} {g : Nat} {row : Option Nat} (hg : w.grownBy w' row) (hl : g < w.heap.size) (hne : some g ≠ row) : w'.heap[g]? = w.heap[g]? := hg.block g hl hne
theorem cell_same {w w' : World} {g : Nat} (h : w'.heap[g]? = w.heap[g]?) (i : Nat) : w'.cell? ⟨g, i, none⟩ = w.cell? ⟨g, i, none⟩ := by
  unfold World.cell?
  simp only [h]
theorem frozen_same {w w' : World} {g : Nat} (h : w'.heap[g]? = w.heap[g]?) (i : Nat) : w'.frozen? ⟨g, i, none⟩ = w.frozen? ⟨g, i, none⟩ := by
  unfold World.frozen?
  simp only [h]
theorem grown_setCells (g : Nat) : ∀ (vs : List Value) (o : Nat) (w : World), w.grownBy (w.setCells g o vs) (some g)
  | [], _, _ => ⟨rfl, rfl, rfl, Nat.le_refl _, fun _ _ _ => rfl⟩
  | v :: r, o, w => (grown_set w g o v).trans (grown_setCells g r (o + 1) _)
section
variable {w w' : World} {g n j : Nat} {K : List KeyV}
theorem KeyRow.same (h : KeyRow w g n K j) (hb : w'.heap[g]? = w.heap[g]?) (hs : w.heap.size ≤ w'.heap.size) : KeyRow w' g n K j :=
  ⟨Nat.lt_of_lt_of_le h.lt hs, fun i hi => by rw [cell_same hb, frozen_same hb]; exact h.room i hi, fun k hk i v hv => by rw [cell_same hb]; exact h.done k hk i v hv⟩
theorem KeyRow.kept {row : Option Nat} (h : KeyRow w g n K j) (hg : w.grownBy w' row) (hne : some g ≠ row) : KeyRow w' g n K j := h.same (heap_kept hg h.lt hne) hg.size
theorem KeyRow.keys (h : KeyRow w g n K n) (hl : K.length = n) (hk : ∀ k ∈ K, k.c.length = 32) (hn : n ≤ 1000) : KeysAt w (pA g) n n K :=
  ⟨hl, Nat.le_refl _, by omega, hk, .inr ⟨g, 0, rfl, fun j hj => by rw [Nat.zero_add]; exact h.done j hj⟩⟩
/-- One more key. -/
theorem KeyRow.put (h : KeyRow w g n K j) (hj : j < n) (hw : ∀ k, k < n → (kOf K k).c.length = 32) : KeyRow (w.setCells g (j * 34) (keyL (kOf K j))) g n K (j + 1) := by
  have h34 := keyL_length (hw j hj)
  have hr : w.there g (j * 34) (keyL (kOf K j)).length := fun i hi => by
    have := h.room (j * 34 + i) (by omega)
    rwa [Nat.zero_add] at this
  refine ⟨?_, World.there_setCells h.room g _ _, fun k hkj => ?_⟩
  · exact Nat.lt_of_lt_of_le h.lt (grown_setCells g _ _ w).size
  · rcases Nat.lt_or_ge k j with h1 | h1
    · refine World.rangeAt_setCells_apart (h.done k h1) g _ _ (.inr ?_)
      have hl := keyL_length (hw k (by omega))
      left
      have := Nat.mul_le_mul_right 34 h1
      rw [Nat.succ_mul] at this
      omega
    · obtain rfl : k = j := by omega
      exact World.rangeAt_setCells_same w g _ _ hr
end
theorem infoKz : (Try.prog.info? 41).map (fun i => (i.zero, i.size, i.bytes)) = some (some (.agg (keyC ⟨0, idZero, 0⟩)), 34, 48) := by kernel_rfl
/-- 'make' of so many keys. -/
theorem make_keys {w : World} {ops : Array Oper} {rest : List Oper} {o : Oper} {a : Act} {Q : Exit → Act → World → Prop} (hgd : o.guard = none) (x y : Operand) (ho : o.op = Op.makeSlice 73 x y)
    (n : Nat) (K : List KeyV) (hx : a.eval x = .int .i64 (n : Int)) (hy : a.eval y = .int .i64 (n : Int)) (hn : n ≤ 1000)
    (h : ∀ w', KeyRow w' w.heap.size n K 0 → w.grownBy w' none → wpList Try.prog ops Q rest (a.put o.dst (.slice (some ⟨w.heap.size, 0, none⟩) n n)) w') : wpList Try.prog ops Q (o :: rest) a w := by
  obtain ⟨i0, hi, hz0, hz1, hz2⟩ := info_parts infoKz
  refine wpList_make_full w hgd x y _ ho w.heap.size 41 i0 _ 34 Try.underlying73 hi hz0 hz1 .i64 .i64 _ _ n hx hy rfl rfl (by rw [hz2]; omega) (by unfold maxLen; omega) (Nat.le_refl _) ?_
  intro w' h1 h2
  refine h w' ⟨(World.ownsRow.lt h1 w.heap.size rfl).2, fun i hi => ⟨?_, World.ownsRow.frozenAt h1 _⟩, fun k hk => by omega⟩ h2
  have hl : i < (madeCells (Value.agg (keyC ⟨0, idZero, 0⟩)).cells (n * 34)).toList.length := by simpa [madeCells] using hi
  have := World.ownsRow.cells h1 (g := w.heap.size) rfl i _ (List.getElem?_eq_getElem hl)
  rw [Addr.add_lit] at this
  rw [this]; rfl

/-- A key stored where it belongs. -/
theorem store_key {w : World} {g n i : Nat} {K : List KeyV} (h : KeyRow w g n K i) (hi : i < n) (hw : ∀ k, k < n → (kOf K k).c.length = 32) {ops : Array Oper} {rest : List Oper} {o : Oper} {a : Act} {Q : Exit → Act → World → Prop} (hgd : o.guard = none) (x y : Operand) (ho : o.op = .store 41 x y)
    (hx : a.eval x = .pointer (some ⟨g, i * 34, none⟩)) (hy : a.eval y = .agg (keyC (kOf K i)))
    (hK : ∀ W, KeyRow W g n K (i + 1) → w.grownBy W (some g) → wpList Try.prog ops Q rest (a.put o.dst undef) W) : wpList Try.prog ops Q (o :: rest) a w := by
  have h34 : (keyC (kOf K i)).size = 34 := by have := keyL_length (hw i hi); simpa [keyC] using this
  refine wpList_store_mid hgd 41 x y ho g (i * 34) (keyC (kOf K i)) hx hy (fun j hj => ?_) (by rw [h34]; exact infoKey) (all_oneCell_toArray (fun v hv => ?_)) ?_
  · have := h.room (i * 34 + j) (by rw [h34] at hj; omega)
    rwa [Nat.zero_add] at this
  · unfold keyL at hv
    simp only [List.mem_cons, List.mem_append, List.mem_map, List.not_mem_nil, or_false] at hv
    rcases hv with rfl | ⟨b, _, rfl⟩ | rfl <;> rfl
  · have e : (keyC (kOf K i)).toList = keyL (kOf K i) := by simp [keyC]
    rw [e]
    exact hK _ (h.put hi hw) (grown_setCells g _ _ w)

/-- The struct of the children, and its rows. -/
structure FamW (w W : World) (n gC gF gN : Nat) (s : FamS) : Prop where
  c : W.heap[gC]? = some (.cells #[M s.e, .slice (pA gF) n n, .slice (pA gN) n n] 61 (0, 0))
  F : Own1 M 3 W w.heap.size (.slice (pA gF) n n) s.F
  N : Own1 M 3 W w.heap.size (.slice (pA gN) n n) s.N
  base : w.heap.size ≤ gC
  below : Below w.heap.size w W
  ne1 : gC ≠ gF
  ne2 : gC ≠ gN
  ne3 : gF ≠ gN
section
variable {w W W' : World} {n gC gF gN : Nat} {s : FamS}
theorem FamW.lt (h : FamW w W n gC gF gN s) : gC < W.heap.size := by
  rcases Nat.lt_or_ge gC W.heap.size with h' | h'
  · exact h'
  · have := h.c
    rw [Array.getElem?_eq_none h'] at this; cases this
theorem FamW.later (h : FamW w W n gC gF gN s) (hb : Below W.heap.size W W') : FamW w W' n gC gF gN s :=
  ⟨by rw [hb.block gC h.lt]; exact h.c, h.F.below hb, h.N.below hb, h.base, h.below.trans (hb.mono h.below.size), h.ne1, h.ne2, h.ne3⟩
/-- Another block is written. -/
theorem FamW.kept {g : Nat} (h : FamW w W n gC gF gN s) (hg : W.grownBy W' (some g)) (h0 : w.heap.size ≤ g) (h1 : gC ≠ g) (h2 : gF ≠ g) (h3 : gN ≠ g) : FamW w W' n gC gF gN s :=
  ⟨by rw [hg.block gC h.lt (by simpa using h1)]; exact h.c, h.F.kept hg (.inr (by simpa [Value.ownBlock] using h2)), h.N.kept hg (.inr (by simpa [Value.ownBlock] using h3)), h.base, h.below.grown hg h.below.size (fun k hk => by cases hk; exact h0), h.ne1, h.ne2, h.ne3⟩
theorem FamW.setF (h : FamW w W n gC gF gN s) (hn : 0 < n) (i x : Nat) : FamW w (W.setCell ⟨gF, i, none⟩ (M x)) n gC gF gN ⟨s.e, s.F.set i x, s.N⟩ := by
  have hg := grown_set W gF i (M x)
  have hb : w.heap.size ≤ gF := by
    obtain ⟨g, e, h1, _⟩ := h.F.row hn
    simp only [pA, Option.some.injEq, Addr.mk.injEq, and_true] at e
    omega
  exact ⟨by rw [hg.block gC h.lt (by simpa using h.ne1)]; exact h.c, h.F.store h.F.len i x, h.N.kept hg (.inr (by simpa [Value.ownBlock] using fun e => h.ne3 e.symm)), h.base, h.below.grown hg h.below.size (fun k hk => by cases hk; exact hb), h.ne1, h.ne2, h.ne3⟩
theorem FamW.setN (h : FamW w W n gC gF gN s) (hn : 0 < n) (i x : Nat) : FamW w (W.setCell ⟨gN, i, none⟩ (M x)) n gC gF gN ⟨s.e, s.F, s.N.set i x⟩ := by
  have hg := grown_set W gN i (M x)
  have hb : w.heap.size ≤ gN := by
    obtain ⟨g, e, h1, _⟩ := h.N.row hn
    simp only [pA, Option.some.injEq, Addr.mk.injEq, and_true] at e
    omega
  exact ⟨by rw [hg.block gC h.lt (by simpa using h.ne2)]; exact h.c, h.F.kept hg (.inr (by simpa [Value.ownBlock] using h.ne3)), h.N.store h.N.len i x, h.base, h.below.grown hg h.below.size (fun k hk => by cases hk; exact hb), h.ne1, h.ne2, h.ne3⟩
theorem FamW.setE (h : FamW w W n gC gF gN s) (x : Nat) : FamW w (W.setCell ⟨gC, 0, none⟩ (M x)) n gC gF gN ⟨x, s.F, s.N⟩ := by
  have hg := grown_set W gC 0 (M x)
  refine ⟨?_, h.F.kept hg (.inr (by simpa [Value.ownBlock] using fun e => h.ne1 e.symm)), h.N.kept hg (.inr (by simpa [Value.ownBlock] using fun e => h.ne2 e.symm)), h.base, h.below.grown hg h.below.size (fun k hk => by cases hk; exact h.base), h.ne1, h.ne2, h.ne3⟩
  rw [heap_setCell_same W gC 0 _ _ _ h.c]
  rfl
theorem FamW.weak {w0 : World} (h : FamW w W n gC gF gN s) (hb : Below w0.heap.size w0 w) : FamW w0 W n gC gF gN s :=
  ⟨h.c, h.F.mono hb.size, h.N.mono hb.size, Nat.le_trans hb.size h.base, hb.trans (h.below.mono hb.size), h.ne1, h.ne2, h.ne3⟩
theorem FamW.cells (h : FamW w W n gC gF gN s) : W.cell? ⟨gC, 0, none⟩ = some (M s.e) ∧ W.cell? ⟨gC, 1, none⟩ = some (.slice (pA gF) n n) ∧ W.cell? ⟨gC, 2, none⟩ = some (.slice (pA gN) n n) ∧ W.frozen? ⟨gC, 0, none⟩ = false := by
  refine ⟨?_, ?_, ?_, Lib.frozen_of_heap h.c 0⟩ <;> rw [Lib.cell_of_heap h.c] <;> rfl
theorem FamW.rows (h : FamW w W n gC gF gN s) (i : Nat) (hi : i < n) : W.cell? ⟨gF, i, none⟩ = some (M (s.F.getD i 0)) ∧ W.frozen? ⟨gF, i, none⟩ = false ∧ W.cell? ⟨gN, i, none⟩ = some (M (s.N.getD i 0)) ∧ W.frozen? ⟨gN, i, none⟩ = false := by
  have f := h.F.at1.cell i hi
  have g := h.N.at1.cell i hi
  rw [Nat.zero_add] at f g
  obtain ⟨g1, e1, _, _, _, z1⟩ := h.F.row (by omega)
  obtain ⟨g2, e2, _, _, _, z2⟩ := h.N.row (by omega)
  simp only [pA, Option.some.injEq, Addr.mk.injEq, and_true] at e1 e2
  subst e1 e2
  exact ⟨f, z1 i, g, z2 i⟩
end
#print axioms FamW.setE
#print axioms make_keys
#print axioms KeyRow.keys
end Go.Proofs.Ytmenhbdapikpeaa
