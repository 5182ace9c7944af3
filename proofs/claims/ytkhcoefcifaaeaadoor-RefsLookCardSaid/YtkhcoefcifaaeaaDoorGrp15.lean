/-
  Merged: IdRow, IdSortMath, IdCompMath.
-/
import Derived.Test.YtkhcoefcifaaeaaDoorGrp9
import Derived.OwnWalk
import Derived.BigFrame
namespace Go.Proofs.YtkhcoefcifaaeaaDoor
open Go.RowKit

/-- A row of ids at a block's head, that may be written. -/
def RowC (w : World) (g : Nat) (L : List (List UInt8)) : Prop := W32 L ∧ w.rangeAt g 0 (flat L) ∧ w.there g 0 (L.length * 32)

/-- Whatever is not one block stands; the rest grows. -/
abbrev Kept (g : Nat) (w w' : World) : Prop := w.grownBy w' (some g)

theorem Kept.refl (g : Nat) (w : World) : Kept g w w := ⟨rfl, rfl, rfl, Nat.le_refl _, fun _ _ _ => rfl⟩
theorem Kept.trans {g : Nat} {a b c : World} (h : Kept g a b) (k : Kept g b c) : Kept g a c :=
  ⟨k.os.trans h.os, k.tape.trans h.tape, k.output.trans h.output, Nat.le_trans h.size k.size, fun j hj hn => (k.block j (Nat.lt_of_lt_of_le hj h.size) hn).trans (h.block j hj hn)⟩
theorem Kept.of_below {g : Nat} {w w' : World} (h : Below w.heap.size w w') : Kept g w w' := ⟨h.os, h.tape, h.output, h.size, fun j hj _ => h.block j hj⟩
theorem Kept.below {g base : Nat} {w0 w w' : World} (hb : Below base w0 w) (h : Kept g w w') (hg : base ≤ g) (hs : base ≤ w.heap.size) : Below base w0 w' :=
  ⟨h.os.trans hb.os, h.tape.trans hb.tape, h.output.trans hb.output, Nat.le_trans hb.size h.size, fun k hk => (h.block k (by omega) (fun e => by simp at e; omega)).trans (hb.block k hk)⟩

theorem setCells_size (g : Nat) : ∀ (vs : List Value) (o : Nat) (w : World), (w.setCells g o vs).heap.size = w.heap.size
  | [], _, _ => rfl
  | v :: r, o, w => by rw [World.setCells, setCells_size g r (o + 1)]; simp [World.setCell]
theorem setCells_tape (g : Nat) : ∀ (vs : List Value) (o : Nat) (w : World), (w.setCells g o vs).tape = w.tape
  | [], _, _ => rfl
  | v :: r, o, w => by rw [World.setCells, setCells_tape g r (o + 1)]; rfl
theorem setCells_os (g : Nat) : ∀ (vs : List Value) (o : Nat) (w : World), (w.setCells g o vs).os = w.os ∧ (w.setCells g o vs).output = w.output
  | [], _, _ => ⟨rfl, rfl⟩
  | v :: r, o, w => by rw [World.setCells]; exact setCells_os g r (o + 1) _
theorem setCells_block (g : Nat) : ∀ (vs : List Value) (o : Nat) (w : World) (k : Nat), k ≠ g → (w.setCells g o vs).heap[k]? = w.heap[k]?
  | [], _, _, _, _ => rfl
  | v :: r, o, w, k, h => by rw [World.setCells, setCells_block g r (o + 1) _ k h]; exact Below.heap_setCell _ _ _ _ h
theorem Kept.setCells (g o : Nat) (vs : List Value) (w : World) : Kept g w (w.setCells g o vs) :=
  ⟨(setCells_os g vs o w).1, setCells_tape g vs o w, (setCells_os g vs o w).2, by rw [setCells_size g vs o w]; exact Nat.le_refl _, fun k _ hn => setCells_block g vs o w k (fun e => hn (by rw [e]))⟩

theorem rangeAt_kept {g : Nat} {w w' : World} {b off : Nat} {cs : List Value} (h : w.rangeAt b off cs) (hk : Kept g w w') (hb : b ≠ g) : w'.rangeAt b off cs := fun j v hv => by
  have h1 := h j v hv
  rw [World.cell?_of_block (a := ⟨b, off + j, none⟩) (hk.block b (World.block_lt_of_cell? _ _ h1) (fun e => hb (by simpa using e)))]
  exact h1

theorem IdsAt.kept {g : Nat} {w w' : World} {b off n c : Nat} {L : List (List UInt8)} (h : IdsAt w (some ⟨b, off, none⟩) n c L) (hk : Kept g w w') (hb : b ≠ g) : IdsAt w' (some ⟨b, off, none⟩) n c L := by
  obtain ⟨h1, h2, h3, h5, h4⟩ := h
  refine ⟨h1, h2, h3, h5, ?_⟩
  rcases h4 with h4 | ⟨b', off', ha, hc⟩
  · exact .inl h4
  · simp only [Option.some.injEq, Addr.mk.injEq, and_true] at ha
    obtain ⟨rfl, rfl⟩ := ha
    exact .inr ⟨b, off, rfl, rangeAt_kept hc hk hb⟩

theorem IdsAt.kept_ {g : Nat} {w w' : World} {a : Option Addr} {n c : Nat} {L : List (List UInt8)} (h : IdsAt w a n c L) (hk : Kept g w w') (hne : ∀ b off, a = some ⟨b, off, none⟩ → b ≠ g) : IdsAt w' a n c L := by
  rcases h.2.2.2.2 with ⟨h0, h0'⟩ | ⟨b, off, rfl, _⟩
  · exact ⟨h.1, h.2.1, h.2.2.1, h.2.2.2.1, .inl ⟨h0, h0'⟩⟩
  · exact h.kept hk (hne b off rfl)

theorem RowC.lt {w : World} {g : Nat} {L : List (List UInt8)} (h : RowC w g L) (hn : 0 < L.length) : g < w.heap.size := by
  have h1 := (h.2.2 0 (by omega)).1
  obtain ⟨u, hu⟩ := Option.isSome_iff_exists.1 h1
  exact World.block_lt_of_cell? _ _ hu
theorem RowC.below {w w' : World} {g : Nat} {L : List (List UInt8)} (h : RowC w g L) (hb : Below w.heap.size w w') : RowC w' g L := by
  refine ⟨h.1, rangeAt_below h.2.1 hb, fun j hj => ?_⟩
  obtain ⟨h1, h2⟩ := h.2.2 j hj
  obtain ⟨u, hu⟩ := Option.isSome_iff_exists.1 h1
  have hlt := World.block_lt_of_cell? _ _ hu
  exact ⟨by rw [hb.cell hlt]; exact h1, by rw [hb.frozen hlt]; exact h2⟩
theorem RowC.kept {w w' : World} {g k : Nat} {L : List (List UInt8)} (h : RowC w g L) (hk : Kept k w w') (hg : g ≠ k) : RowC w' g L := by
  refine ⟨h.1, rangeAt_kept h.2.1 hk hg, fun j hj => ?_⟩
  obtain ⟨h1, h2⟩ := h.2.2 j hj
  obtain ⟨u, hu⟩ := Option.isSome_iff_exists.1 h1
  have hlt := World.block_lt_of_cell? _ _ hu
  have hbl := hk.block g hlt (fun e => hg (by simpa using e))
  exact ⟨by rw [World.cell?_of_block (a := ⟨g, 0 + j, none⟩) hbl]; exact h1, by rw [World.frozen?_of_block (a := ⟨g, 0 + j, none⟩) hbl]; exact h2⟩

/-- A part of a row, as a slice. -/
theorem flat_drop {L : List (List UInt8)} (h : W32 L) : ∀ i, (flat L).drop (i * 32) = flat (L.drop i) := by
  induction L with
  | nil => intro i; simp [flat]
  | cons x L ih =>
    intro i
    have hx := h x (by simp)
    cases i with
    | zero => simp
    | succ i =>
      have e : flat (x :: L) = x.map B ++ flat L := rfl
      have hl : (x.map B).length = 32 := by simp [hx]
      rw [e, show (i + 1) * 32 = (x.map B).length + i * 32 from by omega, List.drop_append, List.drop_eq_nil_of_le (by omega), List.nil_append,
        show (x.map B).length + i * 32 - (x.map B).length = i * 32 from by omega, List.drop_succ_cons]
      exact ih (fun y hy => h y (by simp [hy])) i
theorem flat_take {L : List (List UInt8)} (h : W32 L) : ∀ i, (flat L).take (i * 32) = flat (L.take i) := by
  induction L with
  | nil => intro i; simp [flat]
  | cons x L ih =>
    intro i
    have hx := h x (by simp)
    cases i with
    | zero => simp [flat]
    | succ i =>
      have e : flat (x :: L) = x.map B ++ flat L := rfl
      have e2 : flat ((x :: L).take (i + 1)) = x.map B ++ flat (L.take i) := rfl
      have hl : (x.map B).length = 32 := by simp [hx]
      rw [e, e2, show (i + 1) * 32 = (x.map B).length + i * 32 from by omega, List.take_append, List.take_of_length_le (by omega),
        show (x.map B).length + i * 32 - (x.map B).length = i * 32 from by omega]
      rw [ih (fun y hy => h y (by simp [hy])) i]
theorem W32.drop {L : List (List UInt8)} (h : W32 L) (i : Nat) : W32 (L.drop i) := fun x hx => h x (List.mem_of_mem_drop hx)
theorem W32.take {L : List (List UInt8)} (h : W32 L) (i : Nat) : W32 (L.take i) := fun x hx => h x (List.mem_of_mem_take hx)

theorem rangeAt_part {w : World} {b off : Nat} {cs : List Value} (h : w.rangeAt b off cs) (i m : Nat) : w.rangeAt b (off + i) ((cs.drop i).take m) := fun j v hv => by
  rw [List.getElem?_take] at hv
  split at hv
  · rw [List.getElem?_drop] at hv
    have := h (i + j) v hv
    rw [Nat.add_assoc]
    exact this
  · cases hv

theorem RowC.part {w : World} {g : Nat} {L : List (List UInt8)} (h : RowC w g L) (i m c : Nat) (hm : i + m ≤ L.length) (hc : m ≤ c) (hc2 : c ≤ 9223372036854775807) : IdsAt w (some ⟨g, i * 32, none⟩) m c ((L.drop i).take m) := by
  refine ⟨by simp; omega, hc, hc2, (h.1.drop i).take m, .inr ⟨g, i * 32, rfl, ?_⟩⟩
  have := rangeAt_part h.2.1 (i * 32) (m * 32)
  rw [Nat.zero_add, flat_drop h.1, flat_take (h.1.drop i)] at this
  exact this

theorem IdsAt.tail_ {w : World} {b off n c : Nat} {x : List UInt8} {L : List (List UInt8)} (h : IdsAt w (some ⟨b, off, none⟩) n c (x :: L)) : IdsAt w (some ⟨b, off + 32, none⟩) (n - 1) (c - 1) L := by
  obtain ⟨h1, h2, h3, h5, h4⟩ := h
  rw [List.length_cons] at h1
  refine ⟨by omega, by omega, by omega, fun y hy => h5 y (by simp [hy]), ?_⟩
  rcases h4 with ⟨h0, _⟩ | ⟨b', off', ha, hc⟩
  · omega
  · simp only [Option.some.injEq, Addr.mk.injEq, and_true] at ha
    obtain ⟨rfl, rfl⟩ := ha
    refine .inr ⟨b, off + 32, rfl, ?_⟩
    have h6 := rangeAt_part hc 32 (flat L).length
    have e : (flat (x :: L)).drop 32 = flat L := by
      have := flat_drop h5 1
      simpa using this
    rw [e, List.take_of_length_le (Nat.le_refl _)] at h6
    exact h6

/-- One id stored into a row. -/
theorem flat_set {L : List (List UInt8)} (h : W32 L) (i : Nat) (hi : i < L.length) (x : List UInt8) : flat (L.set i x) = (flat L).take (i * 32) ++ (x.map B ++ (flat L).drop ((i + 1) * 32)) := by
  rw [flat_take h, flat_drop h, ← List.append_assoc]
  have : L.set i x = L.take i ++ (x :: L.drop (i + 1)) := by
    rw [List.set_eq_take_append_cons_drop, if_pos hi]
  rw [this, flat_append]
  have e : flat (x :: L.drop (i + 1)) = x.map B ++ flat (L.drop (i + 1)) := rfl
  rw [e, List.append_assoc]
theorem W32.set {L : List (List UInt8)} (h : W32 L) (i : Nat) {x : List UInt8} (hx : x.length = 32) : W32 (L.set i x) := fun y hy => by
  rcases List.mem_or_eq_of_mem_set hy with h1 | rfl
  · exact h y h1
  · exact hx

theorem RowC.there_at {w : World} {g : Nat} {L : List (List UInt8)} (h : RowC w g L) (i : Nat) (hi : i < L.length) : w.there g (i * 32) 32 := fun j hj => by
  have := h.2.2 (i * 32 + j) (by omega)
  rwa [Nat.zero_add] at this

theorem RowC.store {w : World} {g : Nat} {L : List (List UInt8)} (h : RowC w g L) (i : Nat) (hi : i < L.length) (x : List UInt8) (hx : x.length = 32) : RowC (w.setCells g (i * 32) (x.map B)) g (L.set i x) := by
  have hth := h.there_at i hi
  refine ⟨h.1.set i hx, ?_, by rw [List.length_set]; exact World.there_setCells h.2.2 _ _ _⟩
  intro j v hv
  rw [flat_set h.1 i hi, List.getElem?_append] at hv
  have hfl := flat_length h.1
  have htl : ((flat L).take (i * 32)).length = i * 32 := by rw [List.length_take, hfl]; omega
  rw [htl] at hv
  by_cases h1 : j < i * 32
  · rw [if_pos h1, List.getElem?_take, if_pos h1] at hv
    rw [World.cell?_setCells_out g _ _ w ⟨g, 0 + j, none⟩ (fun _ _ => .inl (by show 0 + j < i * 32; omega))]
    exact h.2.1 j v hv
  · rw [if_neg h1, List.getElem?_append, List.length_map, hx] at hv
    by_cases h2 : j - i * 32 < 32
    · rw [if_pos h2] at hv
      have h3 := World.cell?_setCells_in g (x.map B) (i * 32) w (fun q hq => (hth q (by simpa [hx] using hq)).1) (j - i * 32) (by simpa [hx] using h2)
      rw [show i * 32 + (j - i * 32) = 0 + j from by omega] at h3
      rw [h3, ← hv, List.getElem?_eq_getElem (by simpa [hx] using h2)]
    · rw [if_neg h2, List.getElem?_drop, show (i + 1) * 32 + (j - i * 32 - 32) = j from by omega] at hv
      rw [World.cell?_setCells_out g _ _ w ⟨g, 0 + j, none⟩ (fun _ _ => .inr (by show i * 32 + (x.map B).length ≤ 0 + j; simp [hx]; omega))]
      exact h.2.1 j v hv

/-! ### Merging, plainly -/
abbrev mrg (A C : List (List UInt8)) : List (List UInt8) := List.merge A C leB
theorem mrg_nil_right (A : List (List UInt8)) : mrg A [] = A := by simp [mrg]
theorem mrg_left {a : List UInt8} {A C : List (List UInt8)} (h : C = [] ∨ ∃ c D, C = c :: D ∧ cmpF a c ≤ 0) : mrg (a :: A) C = a :: mrg A C := by
  rcases h with rfl | ⟨c, D, rfl, h⟩
  · simp [mrg]
  · exact List.cons_merge_cons_pos leB A D (by simp [leB, h])
theorem mrg_right {c : List UInt8} {A D : List (List UInt8)} (h : A = [] ∨ ∃ a E, A = a :: E ∧ 0 < cmpF a c) : mrg A (c :: D) = c :: mrg A D := by
  rcases h with rfl | ⟨a, E, rfl, h⟩
  · simp [mrg]
  · exact List.cons_merge_cons_neg leB E D (by simp [leB]; omega)
theorem mrg_length (A C : List (List UInt8)) : (mrg A C).length = A.length + C.length := by simp [mrg]
#print axioms RowC.store
end Go.Proofs.YtkhcoefcifaaeaaDoor

namespace Go.Proofs.YtkhcoefcifaaeaaDoor
open Go.RowKit

theorem leB_trans (a b c : List UInt8) (h1 : leB a b = true) (h2 : leB b c = true) : leB a c = true := by
  simp only [leB, decide_eq_true_eq] at *; exact cmpF_le_trans h1 h2
theorem leB_total (a b : List UInt8) : (leB a b || leB b a) = true := by
  simp only [leB, Bool.or_eq_true, decide_eq_true_eq]; rw [cmpF_anti a b]; omega
theorem up_iff (l : List (List UInt8)) : Up l ↔ l.Pairwise (fun a b => leB a b = true) := by
  simp [Up, leB]
theorem mrg_up {A C : List (List UInt8)} (hA : Up A) (hC : Up C) : Up (mrg A C) :=
  (up_iff _).2 (List.pairwise_merge leB_trans leB_total A C ((up_iff _).1 hA) ((up_iff _).1 hC))
theorem mrg_perm (A C : List (List UInt8)) : (mrg A C).Perm (A ++ C) := List.merge_perm_append leB

/-- Each run of so many is in order. -/
def RunsI (q : Nat) (L : List (List UInt8)) : Prop := ∀ i, Up ((L.drop (i * q)).take q)
theorem runs_oneI (L : List (List UInt8)) : RunsI 1 L := fun i => by
  cases h : L.drop (i * 1) with
  | nil => simp [Up]
  | cons x T => simp [Up]
theorem runs_all {q : Nat} {L : List (List UInt8)} (h : RunsI q L) (hq : L.length ≤ q) : Up L := by
  have := h 0
  rwa [Nat.zero_mul, List.drop_zero, List.take_of_length_le hq] at this

/-- What one merge puts where two runs stood. -/
def twoM (q f : Nat) (L : List (List UInt8)) : List (List UInt8) := mrg ((L.drop f).take q) ((L.drop (f + q)).take q)
theorem twoM_perm (q f : Nat) (L : List (List UInt8)) : (twoM q f L).Perm ((L.drop f).take (2 * q)) := by
  have h := mrg_perm ((L.drop f).take q) ((L.drop (f + q)).take q)
  have e : (L.drop f).take (2 * q) = (L.drop f).take q ++ (L.drop (f + q)).take q := by
    rw [show 2 * q = q + q from by omega, List.take_add, List.drop_drop]
  rw [e]; exact h
theorem twoM_length (q f : Nat) (L : List (List UInt8)) : (twoM q f L).length = min (2 * q) (L.length - f) := by
  rw [(twoM_perm q f L).length_eq]; simp

/-- One pass, as far as it is. -/
def Pass (q t : Nat) (L R : List (List UInt8)) : Prop := R.length = L.length ∧ (R.take (t * (2 * q))).Perm (L.take (t * (2 * q))) ∧ ∀ i, i < t → Up ((R.drop (i * (2 * q))).take (2 * q))
theorem pass_zero (q : Nat) {L R : List (List UInt8)} (h : R.length = L.length) : Pass q 0 L R := ⟨h, by simp, fun i hi => by omega⟩
theorem pass_step {q t : Nat} {L R : List (List UInt8)} (hr : RunsI q L) (h : Pass q t L R) (hf : t * (2 * q) < L.length) :
    Pass q (t + 1) L (R.take (t * (2 * q)) ++ (twoM q (t * (2 * q)) L ++ R.drop (t * (2 * q) + (twoM q (t * (2 * q)) L).length))) := by
  obtain ⟨h1, h2, h3⟩ := h
  have hM := twoM_length q (t * (2 * q)) L
  have hMu : Up (twoM q (t * (2 * q)) L) := by
    refine mrg_up ?_ ?_
    · have := hr (t * 2)
      rwa [show t * 2 * q = t * (2 * q) from by rw [Nat.mul_assoc]] at this
    · have := hr (t * 2 + 1)
      rwa [show (t * 2 + 1) * q = t * (2 * q) + q from by rw [Nat.add_mul, Nat.mul_assoc, Nat.one_mul]] at this
  have hMp := twoM_perm q (t * (2 * q)) L
  have e2 : (t + 1) * (2 * q) = t * (2 * q) + 2 * q := by rw [Nat.add_mul, Nat.one_mul]
  rw [show (t + 1) = t + 1 from rfl]
  unfold Pass
  rw [e2]
  generalize hF : t * (2 * q) = f at *
  generalize twoM q f L = M at *
  generalize hs : 2 * q = s at *
  have htk : (R.take f).length = f := by simp; omega
  have hcut : (M ++ R.drop (f + M.length)).take s = M := by
    by_cases hc : f + s ≤ L.length
    · rw [List.take_append_of_le_length (by omega), List.take_of_length_le (by omega)]
    · rw [List.drop_eq_nil_of_le (by omega), List.append_nil, List.take_of_length_le (by omega)]
  refine ⟨by simp; omega, ?_, ?_⟩
  · rw [List.take_add, List.take_append_of_le_length (by omega), List.take_of_length_le (by omega)]
    rw [show (R.take f ++ (M ++ R.drop (f + M.length))).drop f = M ++ R.drop (f + M.length) from by
      have := @List.drop_append _ (R.take f) (M ++ R.drop (f + M.length)) f
      rw [this, List.drop_eq_nil_of_le (by omega), htk, Nat.sub_self, List.drop_zero, List.nil_append]]
    rw [hcut, List.take_add]
    exact h2.append hMp
  · intro i hi
    by_cases hit : i < t
    · have hle : i * s + s ≤ f := by
        have : (i + 1) * s ≤ t * s := Nat.mul_le_mul_right s (by omega)
        rw [Nat.add_mul, Nat.one_mul] at this
        omega
      rw [List.drop_append_of_le_length (by omega), List.take_append_of_le_length (by simp; omega), List.drop_take, List.take_take, show min s (f - i * s) = s from by omega]
      exact h3 i hit
    · obtain rfl : i = t := by omega
      rw [hF]
      rw [show (R.take f ++ (M ++ R.drop (f + M.length))).drop f = M ++ R.drop (f + M.length) from by
        have := @List.drop_append _ (R.take f) (M ++ R.drop (f + M.length)) f
        rw [this, List.drop_eq_nil_of_le (by omega), htk, Nat.sub_self, List.drop_zero, List.nil_append]]
      rw [hcut]
      exact hMu
theorem pass_end {q t : Nat} {L R : List (List UInt8)} (h : Pass q t L R) (hf : L.length ≤ t * (2 * q)) : R.length = L.length ∧ R.Perm L ∧ RunsI (2 * q) R := by
  obtain ⟨h1, h2, h3⟩ := h
  refine ⟨h1, ?_, ?_⟩
  · rwa [List.take_of_length_le (by omega), List.take_of_length_le hf] at h2
  · intro i
    by_cases hi : i < t
    · exact h3 i hi
    · have : t * (2 * q) ≤ i * (2 * q) := Nat.mul_le_mul_right _ (by omega)
      rw [List.drop_eq_nil_of_le (by omega)]
      simp [Up]

/-- A slice that the call made, as a row that may be written. -/
theorem OwnI.row {w : World} {base : Nat} {a : Option Addr} {n c : Nat} {L : List (List UInt8)} (h : OwnI w base (.slice a n c) L) (hn : 0 < n) : ∃ g, a = some ⟨g, 0, none⟩ ∧ base ≤ g ∧ RowC w g L ∧ L.length = n ∧ n ≤ c ∧ c ≤ 9223372036854775807 := by
  obtain ⟨h0, h5⟩ := h
  have h0' := h0
  obtain ⟨h1, h2⟩ := h0
  rcases h2 with ⟨hv, hz⟩ | ⟨g, cap, cur, hv, hb, hg, hle, hm, hs, ht⟩
  · simp only [Value.slice.injEq] at hv; omega
  · simp only [Value.slice.injEq] at hv
    obtain ⟨rfl, rfl, rfl⟩ := hv
    refine ⟨g, rfl, hb, ⟨h5, fun j v hj => ?_, fun j hj => ?_⟩, rfl, hle, by unfold maxLen at hm; omega⟩
    · have := h0'.cells (g := g) rfl j v hj
      rwa [Addr.add_lit] at this
    · rw [Nat.zero_add]
      have hlen := flat_length h5
      have h6 := h0'.cells (g := g) rfl j ((flat L)[j]'(by omega)) (List.getElem?_eq_getElem (by omega))
      rw [Addr.add_lit, Nat.zero_add] at h6
      exact ⟨by rw [h6]; rfl, h0'.frozenAt j⟩

/-- What is made anew, and may be written. -/
def MadeRI (w : World) (L : List (List UInt8)) (e : Ending) (w' : World) : Prop :=
  ∃ a c, e = .returned (.slice a L.length c) ∧ IdsAt w' a L.length c L ∧ Below w.heap.size w w' ∧ (0 < L.length → ∃ g, a = some ⟨g, 0, none⟩ ∧ w.heap.size ≤ g ∧ RowC w' g L)

def zeros (n : Nat) : List (List UInt8) := List.replicate n idZero
theorem zeros_length (n : Nat) : (zeros n).length = n := by simp [zeros]
theorem zeros_W (n : Nat) : W32 (zeros n) := fun x hx => by rw [List.eq_of_mem_replicate hx]; exact idZero_length

theorem zeros_flat (n : Nat) : (madeCells (idCells idZero) (n * 32)).toList = flat (zeros n) := by
  have hz : flat (zeros n) = List.replicate (n * 32) (B 0) := by
    induction n with
    | zero => rfl
    | succ n ih =>
      have e : flat (zeros (n + 1)) = idZero.map B ++ flat (zeros n) := rfl
      rw [e, ih, show (n + 1) * 32 = 32 + n * 32 from by omega, List.replicate_append_replicate.symm]
      rfl
  rw [hz]
  apply List.ext_getElem
  · simp [madeCells]
  · intro i h1 h2
    have hm : i % 32 < 32 := Nat.mod_lt _ (by omega)
    have h3 : ∀ k (hk : k < (idCells idZero).size), (idCells idZero)[k] = B 0 := fun k hk => by
      have e : idCells idZero = Array.replicate 32 (B 0) := by rfl
      simp only [e, Array.getElem_replicate]
    simp only [List.getElem_replicate]
    have hsz : (idCells idZero).size = 32 := by simp [idCells, idZero]
    have h4 : (madeCells (idCells idZero) (n * 32)).toList[i] = (idCells idZero)[i % (idCells idZero).size]! := by simp [madeCells]
    rw [h4, getElem!_pos _ _ (by rw [hsz]; exact hm), h3]

/-- 'make([]Id, n)'. -/
theorem make_ids {w : World} {ops : Array Oper} {rest : List Oper} {o : Oper} {a : Act} {Q : Exit → Act → World → Prop} (hgd : o.guard = none) (x y : Operand) (ho : o.op = Op.makeSlice 39 x y)
    (n : Nat) (hx : a.eval x = .int .i64 (n : Int)) (hy : a.eval y = .int .i64 (n : Int)) (hn : n ≤ 1000000000000)
    (h : ∀ w', OwnI w' w.heap.size (.slice (some ⟨w.heap.size, 0, none⟩) n n) (zeros n) → w.grownBy w' none → wpList Tryd.prog ops Q rest (a.put o.dst (.slice (some ⟨w.heap.size, 0, none⟩) n n)) w') : wpList Tryd.prog ops Q (o :: rest) a w := by
  obtain ⟨i0, hi, hz0, hz1, hz2⟩ := info_parts Tryd.infoI24
  refine wpList_make_full w hgd x y _ ho w.heap.size 24 i0 (.agg (idCells idZero)) 32 Tryd.underlying39 hi hz0 hz1 .i64 .i64 _ _ n hx hy rfl rfl (by rw [hz2]; omega) (by unfold maxLen; omega) (Nat.le_refl _) ?_
  intro w' h1 h2
  refine h w' ⟨?_, zeros_W n⟩ h2
  have e : (madeCells (Value.agg (idCells idZero)).cells (n * 32)).toList = flat (zeros n) := zeros_flat n
  rw [e] at h1
  rw [zeros_length]
  exact h1

/-- 'min(x, y)'. -/
theorem wl_min {P : Program} {w : World} {ops : Array Oper} {rest : List Oper} {o : Oper} {a : Act} {Q : Exit → Act → World → Prop} (hgd : o.guard = none) (x y : Operand) (ats : Array TypeId)
    (ho : o.op = .call { callee := .builtin .min, args := #[x, y], argTypes := ats }) (X Y Z : Int) (hx : a.eval x = .int .i64 X) (hy : a.eval y = .int .i64 Y) (hz : Z = if Y < X then Y else X)
    (h : wpList P ops Q rest (a.put o.dst (.int .i64 Z)) w) : wpList P ops Q (o :: rest) a w := by
  refine wpList_ok hgd (v := .int .i64 Z) ?_ h
  subst hz
  obtain ⟨dst, op, ty, pos, after, guard⟩ := o
  subst ho
  simp only [BigFrame.execOp_builtin, BigFrame.builtin_min]
  simp [hx, hy, Builtin.min_, Builtin.min2]
#print axioms wl_min
end Go.Proofs.YtkhcoefcifaaeaaDoor

namespace Go.Proofs.YtkhcoefcifaaeaaDoor
open Go.RowKit

theorem getD_left {T U : List (List UInt8)} {i : Nat} (h : i < T.length) : (T ++ U).getD i [] = T.getD i [] := by
  simp [List.getElem?_append_left h]
theorem getD_end {T : List (List UInt8)} {x : List UInt8} {i : Nat} (h : i = T.length) : (T ++ [x]).getD i [] = x := by
  subst h; simp
theorem set_snoc {T : List (List UInt8)} {x : List UInt8} (h : SetF T) (hx : 0 < T.length → cmpF (T.getD (T.length - 1) []) x < 0) : SetF (T ++ [x]) := by
  rw [setF_chain] at h ⊢
  intro i hi
  rw [List.length_append, List.length_singleton] at hi
  by_cases h1 : i + 1 < T.length
  · have := h i h1
    rw [getD_left (by omega), getD_left h1]
    exact this
  · have e : i = T.length - 1 := by omega
    have := hx (by omega)
    rw [getD_left (by omega), getD_end (by omega), e]
    exact this

theorem take_snoc {L : List (List UInt8)} {i : Nat} (h : i < L.length) : L.take (i + 1) = L.take i ++ [L.getD i []] := by
  rw [List.take_succ_eq_append_getElem h]
  simp [h]
theorem getD_takeI {L : List (List UInt8)} {i j : Nat} (h : j < i) : (L.take i).getD j [] = L.getD j [] := by
  simp [h]
theorem up_at {L : List (List UInt8)} (h : Up L) {i j : Nat} (hij : i < j) (hj : j < L.length) : cmpF (L.getD i []) (L.getD j []) ≤ 0 := by
  have := List.pairwise_iff_getElem.1 h i j (by omega) hj hij
  simpa [hj, show i < L.length from by omega] using this
theorem up_ne {L : List (List UInt8)} (h : Up L) {i j : Nat} (hij : i < j) (hj : j < L.length) (hne : L.getD j [] ≠ L.getD i []) : cmpF (L.getD i []) (L.getD j []) < 0 := by
  have h1 := up_at h hij hj
  have h2 : cmpF (L.getD i []) (L.getD j []) ≠ 0 := fun h0 => hne (cmpF_eq h0).symm
  omega

theorem one_set {L : List (List UInt8)} (h : 1 ≤ L.length) : SetF (L.take 1) := by
  cases L with
  | nil => simp at h
  | cons x T => simp [SetF]
theorem set_next {L : List (List UInt8)} {i : Nat} (hu : Up L) (h : SetF (L.take i)) (h1 : 1 ≤ i) (hi : i < L.length) (hne : L.getD i [] ≠ L.getD (i - 1) []) : SetF (L.take (i + 1)) := by
  rw [take_snoc hi]
  refine set_snoc h (fun _ => ?_)
  rw [List.length_take, show min i L.length - 1 = i - 1 from by omega, getD_takeI (by omega)]
  exact up_ne hu (by omega) hi hne

/-- How far it is, in place. -/
structure Once (L : List (List UInt8)) (p i : Nat) (R : List (List UInt8)) : Prop where
  one : 1 ≤ i
  le : i ≤ p
  lt : p < L.length
  len : R.length = L.length
  rest : R.drop p = L.drop p
  set : SetF (R.take i)
  mem : ∀ x, x ∈ R.take i ↔ x ∈ L.take (p + 1)
  last : R.getD (i - 1) [] = L.getD p []

theorem Once.start {L : List (List UInt8)} {i : Nat} (h : SetF (L.take i)) (h1 : 1 ≤ i) (hi : i < L.length) (he : L.getD i [] = L.getD (i - 1) []) : Once L i i L := by
  refine ⟨h1, Nat.le_refl _, hi, rfl, rfl, h, fun x => ?_, he.symm⟩
  rw [take_snoc hi, List.mem_append, List.mem_singleton]
  refine ⟨.inl, fun hx => ?_⟩
  rcases hx with hx | rfl
  · exact hx
  · rw [he]
    have : (L.take i).getD (i - 1) [] = L.getD (i - 1) [] := getD_takeI (by omega)
    rw [← this]
    have h3 : i - 1 < (L.take i).length := by simp; omega
    have : (L.take i).getD (i - 1) [] = (L.take i)[i - 1] := by rw [List.getD_eq_getElem?_getD, List.getElem?_eq_getElem h3]; rfl
    rw [this]
    exact List.getElem_mem h3
theorem Once.same {L R : List (List UInt8)} {p i : Nat} (h : Once L p i R) (hp : p + 1 < L.length) (he : L.getD (p + 1) [] = L.getD p []) : Once L (p + 1) i R := by
  refine ⟨h.one, by have := h.le; omega, hp, h.len, ?_, h.set, fun x => ?_, h.last.trans he.symm⟩
  · rw [← List.drop_drop, ← List.drop_drop, h.rest]
  · rw [h.mem, take_snoc hp, List.mem_append, List.mem_singleton]
    refine ⟨.inl, fun hx => ?_⟩
    rcases hx with hx | rfl
    · exact hx
    · rw [he, take_snoc (by omega)]; simp
theorem set_take {R : List (List UInt8)} {i : Nat} {x : List UInt8} (h : i < R.length) : (R.set i x).take (i + 1) = R.take i ++ [x] := by
  rw [List.set_eq_take_append_cons_drop, if_pos h]
  have h1 : (R.take i).length = i := by simp; omega
  rw [List.take_append, h1, List.take_of_length_le (by omega), show i + 1 - i = 1 from by omega]
  rfl
theorem Once.next {L R : List (List UInt8)} {p i : Nat} (hu : Up L) (h : Once L p i R) (hp : p + 1 < L.length) (hne : L.getD (p + 1) [] ≠ L.getD p []) : Once L (p + 1) (i + 1) (R.set i (L.getD (p + 1) [])) := by
  have hir : i < R.length := by have := h.le; have := h.lt; have := h.len; omega
  refine ⟨by omega, by have := h.le; omega, hp, by rw [List.length_set]; exact h.len, ?_, ?_, fun x => ?_, ?_⟩
  · rw [List.drop_set_of_lt (by have := h.le; omega), ← List.drop_drop, ← List.drop_drop, h.rest]
  · rw [set_take hir]
    refine set_snoc h.set (fun _ => ?_)
    rw [List.length_take, show min i R.length - 1 = i - 1 from by omega, getD_takeI (by have := h.one; omega), h.last]
    exact up_ne hu (by omega) hp hne
  · rw [set_take hir, take_snoc hp, List.mem_append, List.mem_append, h.mem]
  · simp [hir]
theorem Once.end {L R : List (List UInt8)} {p i : Nat} (h : Once L p i R) (hp : p + 1 = L.length) : SetF (R.take i) ∧ ∀ x, x ∈ R.take i ↔ x ∈ L :=
  ⟨h.set, fun x => by rw [h.mem, List.take_of_length_le (by omega)]⟩
theorem Once.read {L R : List (List UInt8)} {p i : Nat} (h : Once L p i R) (j : Nat) (hj : p ≤ j) : R.getD j [] = L.getD j [] := by
  have h1 : (R.drop p).getD (j - p) [] = (L.drop p).getD (j - p) [] := by rw [h.rest]
  simpa [show p + (j - p) = j from by omega] using h1

theorem RowC.at_ {w : World} {g : Nat} {L : List (List UInt8)} (h : RowC w g L) (i : Nat) (hi : i < L.length) : w.rangeAt g (i * 32) ((L.getD i []).map B) := by
  have := rangeAt_part h.2.1 (i * 32) 32
  rwa [flat_at h.1 i hi, Nat.zero_add] at this

/-- 'clear(s)'. -/
theorem run_clear_ids (w : World) (ty : TypeId) (b o n c : Nat) (hn : 0 < n) (ht : w.there b o (n * 32)) :
    (Builtin.clear_ #[39] ty #[.slice (some ⟨b, o, none⟩) n c]).run Tryd.prog w = .ok (.tuple #[]) (w.setCells b o (flat (zeros n))) := by
  have hv : (zeroValue 24).run Tryd.prog w = .ok (.agg (idCells idZero)) w := run_zero_id w
  have hzc : (Builtin.zeroCells (Value.agg (idCells idZero)).cells n).toList = flat (zeros n) := by
    have h := zeros_flat n
    have hsz : (idCells idZero).size = 32 := idCells_size idZero_length
    have e : Builtin.zeroCells (Value.agg (idCells idZero)).cells n = madeCells (idCells idZero) (n * 32) := by
      show (Array.range (n * (idCells idZero).size)).map _ = (Array.range (n * 32)).map _
      rw [hsz]; exact congrArg (fun k => (Array.range (n * 32)).map (fun i => (idCells idZero)[i % k]!)) hsz
    rw [e]; exact h
  have hlen : (flat (zeros n)).length = n * 32 := by rw [flat_length (zeros_W n), zeros_length]
  have hst := run_storeCells_cells (P := Tryd.prog) b o (flat (zeros n)) 0 w (by rw [hlen]; simpa using fun j hj => (ht j hj).1) (by rw [hlen]; simpa using fun j hj => (ht j hj).2) (flat_one _)
  simp only [Nat.add_zero] at hst
  obtain ⟨m, rfl⟩ : ∃ m, n = m + 1 := ⟨n - 1, by omega⟩
  simp [Builtin.clear_, run_underlying Tryd.underlying39, hv, hzc, hst]

theorem wl_clear {w : World} {ops : Array Oper} {rest : List Oper} {o : Oper} {a : Act} {Q : Exit → Act → World → Prop} (hgd : o.guard = none) (x : Operand)
    (ho : o.op = .call { callee := .builtin .clear, args := #[x], argTypes := #[39] }) (b off n c : Nat) (hx : a.eval x = .slice (some ⟨b, off, none⟩) n c) (hn : 0 < n) (ht : w.there b off (n * 32))
    (h : wpList Tryd.prog ops Q rest (a.put o.dst (.tuple #[])) (w.setCells b off (flat (zeros n)))) : wpList Tryd.prog ops Q (o :: rest) a w := by
  refine wpList_ok hgd (v := .tuple #[]) ?_ h
  obtain ⟨dst, op, ty, pos, after, guard⟩ := o
  subst ho
  simp only [BigFrame.execOp_builtin, BigFrame.builtin_clear]
  simp [hx, run_clear_ids w ty b off n c hn ht]

theorem RowC.there_from {w : World} {g : Nat} {L : List (List UInt8)} (h : RowC w g L) (i n : Nat) (hi : i + n ≤ L.length) : w.there g (i * 32) (n * 32) := fun j hj => by
  have := h.2.2 (i * 32 + j) (by omega)
  rwa [Nat.zero_add] at this
theorem RowC.head_cleared {w : World} {g : Nat} {L : List (List UInt8)} (h : RowC w g L) (i c : Nat) (hi : i ≤ L.length) (hc : i ≤ c) (hc2 : c ≤ 9223372036854775807) (vs : List Value) : IdsAt (w.setCells g (i * 32) vs) (some ⟨g, 0, none⟩) i c (L.take i) := by
  refine ⟨by simp; omega, hc, hc2, h.1.take i, .inr ⟨g, 0, rfl, fun j v hv => ?_⟩⟩
  have hj : j < i * 32 := by
    have := (List.getElem?_eq_some_iff.1 hv).1
    rw [flat_length (h.1.take i), List.length_take] at this
    omega
  rw [World.cell?_setCells_out g _ _ w ⟨g, 0 + j, none⟩ (fun _ _ => .inl (by show 0 + j < i * 32; omega))]
  rw [← flat_take h.1, List.getElem?_take, if_pos hj] at hv
  exact h.2.1 j v hv
#print axioms wl_clear
end Go.Proofs.YtkhcoefcifaaeaaDoor
