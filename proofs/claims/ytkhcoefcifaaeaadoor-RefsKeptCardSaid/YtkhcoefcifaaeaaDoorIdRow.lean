/-
  A row of ids that may be written: what lies there behind a store; merging, plainly.
-/
import Derived.Test.YtkhcoefcifaaeaaDoorGrp9
namespace Go.Proofs.YtkhcoefcifaaeaaDoor
open Go.RowKit

/-- A row of ids at a block's head, that may be written. -/
def RowC (w : World) (g : Nat) (L : List (List UInt8)) : Prop := W32 L ∧ w.rangeAt g 0 (flat L) ∧ w.there g 0 (L.length * 32)

/-- Whatever is not one block stands; the rest grows. -/
abbrev Kept (g : Nat) (w w' : World) : Prop := w.grownBy w' (some g)

theorem Kept.refl (g : Nat) (w : World) : Kept g w w := ⟨rfl, rfl, rfl, Nat.le_refl _, fun _ _ _ => rfl⟩
theorem Kept.trans {g : Nat} {a b c : World} (h : Kept g a b) (k : Kept g b c) : Kept g a c :=
  ⟨k.os.trans h.os, k.tape.trans h.tape, k.output.trans h.output, Nat.le_trans h.size k.size, fun j hj hn => (k.block j (Nat.lt_of_lt_of_le hj h.size) hn).trans (h.block j hj hn)⟩
theorem Kept.of_below {g : Nat} {w w' : World} (h : Below w.heap.size w w') : Kept g w w' := ⟨h.os, h.tape, h.output, h.size, fun j hj _ => h.block j hj⟩
theorem Kept.below {g base : Nat} {w0 w w' : World} (hb : Below base w0 w) (h : Kept g w w') (hg : base ≤ g) (hs : base ≤ w.heap.size) : Below base w0 w' :=
  ⟨h.os.trans hb.os, h.tape.trans hb.tape, h.output.trans hb.output, Nat.le_trans hb.size h.size, fun k hk => (h.block k (by omega) (fun e => by simp at e; omega)).trans (hb.block k hk)⟩

theorem setCells_size (g : Nat) : ∀ (vs : List Value) (o : Nat) (w : World), (w.setCells g o vs).heap.size = w.heap.size
  | [], _, _ => rfl
  | v :: r, o, w => by rw [World.setCells, setCells_size g r (o + 1)]; simp [World.setCell]
theorem setCells_tape (g : Nat) : ∀ (vs : List Value) (o : Nat) (w : World), (w.setCells g o vs).tape = w.tape
  | [], _, _ => rfl
  | v :: r, o, w => by rw [World.setCells, setCells_tape g r (o + 1)]; rfl
theorem setCells_os (g : Nat) : ∀ (vs : List Value) (o : Nat) (w : World), (w.setCells g o vs).os = w.os ∧ (w.setCells g o vs).output = w.output
  | [], _, _ => ⟨rfl, rfl⟩
  | v :: r, o, w => by rw [World.setCells]; exact setCells_os g r (o + 1) _
theorem setCells_block (g : Nat) : ∀ (vs : List Value) (o : Nat) (w : World) (k : Nat), k ≠ g → (w.setCells g o vs).heap[k]? = w.heap[k]?
  | [], _, _, _, _ => rfl
  | v :: r, o, w, k, h => by rw [World.setCells, setCells_block g r (o + 1) _ k h]; exact Below.heap_setCell _ _ _ _ h
theorem Kept.setCells (g o : Nat) (vs : List Value) (w : World) : Kept g w (w.setCells g o vs) :=
  ⟨(setCells_os g vs o w).1, setCells_tape g vs o w, (setCells_os g vs o w).2, by rw [setCells_size g vs o w]; exact Nat.le_refl _, fun k _ hn => setCells_block g vs o w k (fun e => hn (by rw [e]))⟩

theorem rangeAt_kept {g : Nat} {w w' : World} {b off : Nat} {cs : List Value} (h : w.rangeAt b off cs) (hk : Kept g w w') (hb : b ≠ g) : w'.rangeAt b off cs := fun j v hv => by
  have h1 := h j v hv
  rw [World.cell?_of_block (a := ⟨b, off + j, none⟩) (hk.block b (World.block_lt_of_cell? _ _ h1) (fun e => hb (by simpa using e)))]
  exact h1

theorem IdsAt.kept {g : Nat} {w w' : World} {b off n c : Nat} {L : List (List UInt8)} (h : IdsAt w (some ⟨b, off, none⟩) n c L) (hk : Kept g w w') (hb : b ≠ g) : IdsAt w' (some ⟨b, off, none⟩) n c L := by
  obtain ⟨h1, h2, h3, h5, h4⟩ := h
  refine ⟨h1, h2, h3, h5, ?_⟩
  rcases h4 with h4 | ⟨b', off', ha, hc⟩
  · exact .inl h4
  · simp only [Option.some.injEq, Addr.mk.injEq, and_true] at ha
    obtain ⟨rfl, rfl⟩ := ha
    exact .inr ⟨b, off, rfl, rangeAt_kept hc hk hb⟩

theorem IdsAt.kept_ {g : Nat} {w w' : World} {a : Option Addr} {n c : Nat} {L : List (List UInt8)} (h : IdsAt w a n c L) (hk : Kept g w w') (hne : ∀ b off, a = some ⟨b, off, none⟩ → b ≠ g) : IdsAt w' a n c L := by
  rcases h.2.2.2.2 with ⟨h0, h0'⟩ | ⟨b, off, rfl, _⟩
  · exact ⟨h.1, h.2.1, h.2.2.1, h.2.2.2.1, .inl ⟨h0, h0'⟩⟩
  · exact h.kept hk (hne b off rfl)

theorem RowC.lt {w : World} {g : Nat} {L : List (List UInt8)} (h : RowC w g L) (hn : 0 < L.length) : g < w.heap.size := by
  have h1 := (h.2.2 0 (by omega)).1
  obtain ⟨u, hu⟩ := Option.isSome_iff_exists.1 h1
  exact World.block_lt_of_cell? _ _ hu
theorem RowC.below {w w' : World} {g : Nat} {L : List (List UInt8)} (h : RowC w g L) (hb : Below w.heap.size w w') : RowC w' g L := by
  refine ⟨h.1, rangeAt_below h.2.1 hb, fun j hj => ?_⟩
  obtain ⟨h1, h2⟩ := h.2.2 j hj
  obtain ⟨u, hu⟩ := Option.isSome_iff_exists.1 h1
  have hlt := World.block_lt_of_cell? _ _ hu
  exact ⟨by rw [hb.cell hlt]; exact h1, by rw [hb.frozen hlt]; exact h2⟩
theorem RowC.kept {w w' : World} {g k : Nat} {L : List (List UInt8)} (h : RowC w g L) (hk : Kept k w w') (hg : g ≠ k) : RowC w' g L := by
  refine ⟨h.1, rangeAt_kept h.2.1 hk hg, fun j hj => ?_⟩
  obtain ⟨h1, h2⟩ := h.2.2 j hj
  obtain ⟨u, hu⟩ := Option.isSome_iff_exists.1 h1
  have hlt := World.block_lt_of_cell? _ _ hu
  have hbl := hk.block g hlt (fun e => hg (by simpa using e))
  exact ⟨by rw [World.cell?_of_block (a := ⟨g, 0 + j, none⟩) hbl]; exact h1, by rw [World.frozen?_of_block (a := ⟨g, 0 + j, none⟩) hbl]; exact h2⟩

/-- A part of a row, as a slice. -/
theorem flat_drop {L : List (List UInt8)} (h : W32 L) : ∀ i, (flat L).drop (i * 32) = flat (L.drop i) := by
  induction L with
  | nil => intro i; simp [flat]
  | cons x L ih =>
    intro i
    have hx := h x (by simp)
    cases i with
    | zero => simp
    | succ i =>
      have e : flat (x :: L) = x.map B ++ flat L := rfl
      have hl : (x.map B).length = 32 := by simp [hx]
      rw [e, show (i + 1) * 32 = (x.map B).length + i * 32 from by omega, List.drop_append, List.drop_eq_nil_of_le (by omega), List.nil_append,
        show (x.map B).length + i * 32 - (x.map B).length = i * 32 from by omega, List.drop_succ_cons]
      exact ih (fun y hy => h y (by simp [hy])) i
theorem flat_take {L : List (List UInt8)} (h : W32 L) : ∀ i, (flat L).take (i * 32) = flat (L.take i) := by
  induction L with
  | nil => intro i; simp [flat]
  | cons x L ih =>
    intro i
    have hx := h x (by simp)
    cases i with
    | zero => simp [flat]
    | succ i =>
      have e : flat (x :: L) = x.map B ++ flat L := rfl
      have e2 : flat ((x :: L).take (i + 1)) = x.map B ++ flat (L.take i) := rfl
      have hl : (x.map B).length = 32 := by simp [hx]
      rw [e, e2, show (i + 1) * 32 = (x.map B).length + i * 32 from by omega, List.take_append, List.take_of_length_le (by omega),
        show (x.map B).length + i * 32 - (x.map B).length = i * 32 from by omega]
      rw [ih (fun y hy => h y (by simp [hy])) i]
theorem W32.drop {L : List (List UInt8)} (h : W32 L) (i : Nat) : W32 (L.drop i) := fun x hx => h x (List.mem_of_mem_drop hx)
theorem W32.take {L : List (List UInt8)} (h : W32 L) (i : Nat) : W32 (L.take i) := fun x hx => h x (List.mem_of_mem_take hx)

theorem rangeAt_part {w : World} {b off : Nat} {cs : List Value} (h : w.rangeAt b off cs) (i m : Nat) : w.rangeAt b (off + i) ((cs.drop i).take m) := fun j v hv => by
  rw [List.getElem?_take] at hv
  split at hv
  · rw [List.getElem?_drop] at hv
    have := h (i + j) v hv
    rw [Nat.add_assoc]
    exact this
  · cases hv

theorem RowC.part {w : World} {g : Nat} {L : List (List UInt8)} (h : RowC w g L) (i m c : Nat) (hm : i + m ≤ L.length) (hc : m ≤ c) (hc2 : c ≤ 9223372036854775807) : IdsAt w (some ⟨g, i * 32, none⟩) m c ((L.drop i).take m) := by
  refine ⟨by simp; omega, hc, hc2, (h.1.drop i).take m, .inr ⟨g, i * 32, rfl, ?_⟩⟩
  have := rangeAt_part h.2.1 (i * 32) (m * 32)
  rw [Nat.zero_add, flat_drop h.1, flat_take (h.1.drop i)] at this
  exact this

theorem IdsAt.tail_ {w : World} {b off n c : Nat} {x : List UInt8} {L : List (List UInt8)} (h : IdsAt w (some ⟨b, off, none⟩) n c (x :: L)) : IdsAt w (some ⟨b, off + 32, none⟩) (n - 1) (c - 1) L := by
  obtain ⟨h1, h2, h3, h5, h4⟩ := h
  rw [List.length_cons] at h1
  refine ⟨by omega, by omega, by omega, fun y hy => h5 y (by simp [hy]), ?_⟩
  rcases h4 with ⟨h0, _⟩ | ⟨b', off', ha, hc⟩
  · omega
  · simp only [Option.some.injEq, Addr.mk.injEq, and_true] at ha
    obtain ⟨rfl, rfl⟩ := ha
    refine .inr ⟨b, off + 32, rfl, ?_⟩
    have h6 := rangeAt_part hc 32 (flat L).length
    have e : (flat (x :: L)).drop 32 = flat L := by
      have := flat_drop h5 1
      simpa using this
    rw [e, List.take_of_length_le (Nat.le_refl _)] at h6
    exact h6

/-- One id stored into a row. -/
theorem flat_set {L : List (List UInt8)} (h : W32 L) (i : Nat) (hi : i < L.length) (x : List UInt8) : flat (L.set i x) = (flat L).take (i * 32) ++ (x.map B ++ (flat L).drop ((i + 1) * 32)) := by
  rw [flat_take h, flat_drop h, ← List.append_assoc]
  have : L.set i x = L.take i ++ (x :: L.drop (i + 1)) := by
    rw [List.set_eq_take_append_cons_drop, if_pos hi]
  rw [this, flat_append]
  have e : flat (x :: L.drop (i + 1)) = x.map B ++ flat (L.drop (i + 1)) := rfl
  rw [e, List.append_assoc]
theorem W32.set {L : List (List UInt8)} (h : W32 L) (i : Nat) {x : List UInt8} (hx : x.length = 32) : W32 (L.set i x) := fun y hy => by
  rcases List.mem_or_eq_of_mem_set hy with h1 | rfl
  · exact h y h1
  · exact hx

theorem RowC.there_at {w : World} {g : Nat} {L : List (List UInt8)} (h : RowC w g L) (i : Nat) (hi : i < L.length) : w.there g (i * 32) 32 := fun j hj => by
  have := h.2.2 (i * 32 + j) (by omega)
  rwa [Nat.zero_add] at this

theorem RowC.store {w : World} {g : Nat} {L : List (List UInt8)} (h : RowC w g L) (i : Nat) (hi : i < L.length) (x : List UInt8) (hx : x.length = 32) : RowC (w.setCells g (i * 32) (x.map B)) g (L.set i x) := by
  have hth := h.there_at i hi
  refine ⟨h.1.set i hx, ?_, by rw [List.length_set]; exact World.there_setCells h.2.2 _ _ _⟩
  intro j v hv
  rw [flat_set h.1 i hi, List.getElem?_append] at hv
  have hfl := flat_length h.1
  have htl : ((flat L).take (i * 32)).length = i * 32 := by rw [List.length_take, hfl]; omega
  rw [htl] at hv
  by_cases h1 : j < i * 32
  · rw [if_pos h1, List.getElem?_take, if_pos h1] at hv
    rw [World.cell?_setCells_out g _ _ w ⟨g, 0 + j, none⟩ (fun _ _ => .inl (by show 0 + j < i * 32; omega))]
    exact h.2.1 j v hv
  · rw [if_neg h1, List.getElem?_append, List.length_map, hx] at hv
    by_cases h2 : j - i * 32 < 32
    · rw [if_pos h2] at hv
      have h3 := World.cell?_setCells_in g (x.map B) (i * 32) w (fun q hq => (hth q (by simpa [hx] using hq)).1) (j - i * 32) (by simpa [hx] using h2)
      rw [show i * 32 + (j - i * 32) = 0 + j from by omega] at h3
      rw [h3, ← hv, List.getElem?_eq_getElem (by simpa [hx] using h2)]
    · rw [if_neg h2, List.getElem?_drop, show (i + 1) * 32 + (j - i * 32 - 32) = j from by omega] at hv
      rw [World.cell?_setCells_out g _ _ w ⟨g, 0 + j, none⟩ (fun _ _ => .inr (by show i * 32 + (x.map B).length ≤ 0 + j; simp [hx]; omega))]
      exact h.2.1 j v hv

/-! ### Merging, plainly -/
abbrev mrg (A C : List (List UInt8)) : List (List UInt8) := List.merge A C leB
theorem mrg_nil_right (A : List (List UInt8)) : mrg A [] = A := by simp [mrg]
theorem mrg_left {a : List UInt8} {A C : List (List UInt8)} (h : C = [] ∨ ∃ c D, C = c :: D ∧ cmpF a c ≤ 0) : mrg (a :: A) C = a :: mrg A C := by
  rcases h with rfl | ⟨c, D, rfl, h⟩
  · simp [mrg]
  · exact List.cons_merge_cons_pos leB A D (by simp [leB, h])
theorem mrg_right {c : List UInt8} {A D : List (List UInt8)} (h : A = [] ∨ ∃ a E, A = a :: E ∧ 0 < cmpF a c) : mrg A (c :: D) = c :: mrg A D := by
  rcases h with rfl | ⟨a, E, rfl, h⟩
  · simp [mrg]
  · exact List.cons_merge_cons_neg leB E D (by simp [leB]; omega)
theorem mrg_length (A C : List (List UInt8)) : (mrg A C).length = A.length + C.length := by simp [mrg]
#print axioms RowC.store
end Go.Proofs.YtkhcoefcifaaeaaDoor
