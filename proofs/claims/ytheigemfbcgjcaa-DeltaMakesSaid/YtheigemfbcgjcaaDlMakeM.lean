/-
  Plainly: the row that is copied, what is told of a target upon a base; the state of Make's loop.
-/
import Derived.Test.YtheigemfbcgjcaaDlAdd
namespace Go.Proofs.Ytheigemfbcgjcaa
open Go.RowKit Go.Lib

/-- The longest row over the places below one, and the least of these. -/
def bestF (b w : List UInt8) : Nat → Nat × Nat
  | 0 => (0, 0)
  | k + 1 => if (bestF b w k).2 < lcpF (b.drop k) w then (k, lcpF (b.drop k) w) else bestF b w k
theorem best_is (b w : List UInt8) : ∀ k, (∀ q, q < k → lcpF (b.drop q) w ≤ (bestF b w k).2) ∧ (bestF b w k = (0, 0) ∨ (bestF b w k).1 < k ∧ lcpF (b.drop (bestF b w k).1) w = (bestF b w k).2 ∧ ∀ q, q < (bestF b w k).1 → lcpF (b.drop q) w < (bestF b w k).2)
  | 0 => ⟨fun q h => absurd h (Nat.not_lt_zero _), .inl rfl⟩
  | k + 1 => by
    obtain ⟨h1, h2⟩ := best_is b w k
    by_cases h : (bestF b w k).2 < lcpF (b.drop k) w
    · have e : bestF b w (k + 1) = (k, lcpF (b.drop k) w) := by show (if (bestF b w k).2 < lcpF (b.drop k) w then _ else _) = _; rw [if_pos h]
      rw [e]
      refine ⟨fun q hq => ?_, .inr ⟨Nat.lt_succ_self _, rfl, fun q hq => ?_⟩⟩
      · by_cases hk : q = k
        · rw [hk]; exact Nat.le_refl _
        · have h3 := h1 q (by omega); show lcpF (b.drop q) w ≤ lcpF (b.drop k) w; omega
      · have h4 : q < k := hq
        have h3 := h1 q h4; show lcpF (b.drop q) w < lcpF (b.drop k) w; omega
    · have e : bestF b w (k + 1) = bestF b w k := by show (if (bestF b w k).2 < lcpF (b.drop k) w then _ else _) = _; rw [if_neg h]
      rw [e]
      refine ⟨fun q hq => ?_, h2.imp id (fun h3 => ⟨by omega, h3.2⟩)⟩
      by_cases hk : q = k
      · rw [hk]; omega
      · exact h1 q (by omega)
/-- The row that is copied: no shorter one than eight bytes. -/
def rowF (b w : List UInt8) : Nat × Nat := if (bestF b w b.length).2 < 8 then (0, 0) else bestF b w b.length
/-- What is said of the row that is copied. -/
def RowIs (b w : List UInt8) (p l : Nat) : Prop := (8 ≤ l ∧ LongIs b w p l) ∨ (p = 0 ∧ l = 0 ∧ ∀ q, q < b.length → lcpF (b.drop q) w < 8)
theorem rowF_eq {b w : List UInt8} {p l : Nat} (h : RowIs b w p l) : rowF b w = (p, l) := by
  obtain ⟨h1, h2⟩ := best_is b w b.length
  unfold rowF
  rcases h with ⟨h8, hL⟩ | ⟨rfl, rfl, hno⟩
  · have h3 := h1 p hL.1
    rw [hL.2.1] at h3
    rw [if_neg (by omega)]
    rcases h2 with h2 | ⟨h4, h5, h6⟩
    · rw [h2] at h3; have : l ≤ 0 := h3; omega
    · have h7 : LongIs b w (bestF b w b.length).1 (bestF b w b.length).2 := ⟨h4, h5, h1, h6⟩
      obtain ⟨e1, e2⟩ := h7.eq hL
      exact Prod.ext e1 e2
  · rcases h2 with h2 | ⟨h4, h5, _⟩
    · rw [h2]; rfl
    · have := hno _ h4
      rw [if_pos (by omega)]
theorem rowF_is (b w : List UInt8) : RowIs b w (rowF b w).1 (rowF b w).2 := by
  obtain ⟨h1, h2⟩ := best_is b w b.length
  unfold rowF
  by_cases h : (bestF b w b.length).2 < 8
  · rw [if_pos h]
    exact .inr ⟨rfl, rfl, fun q hq => by have := h1 q hq; omega⟩
  · rw [if_neg h]
    rcases h2 with h2 | ⟨h4, h5, h6⟩
    · rw [h2] at h; exact absurd (by decide) h
    · exact .inl ⟨by omega, h4, h5, h1, h6⟩
/-- What is told from a place on, where the bytes from another one on wait. -/
def goF (b t : List UInt8) : Nat → Nat → Nat → List UInt8
  | 0, _, _ => []
  | f + 1, at_, wait =>
    if at_ < t.length then
      if (rowF b (t.drop at_)).2 = 0 then goF b t f (at_ + 1) wait
      else addF t wait at_ ++ (numF (2 * (rowF b (t.drop at_)).2 + 1) ++ (numF (rowF b (t.drop at_)).1 ++ goF b t f (at_ + (rowF b (t.drop at_)).2) (at_ + (rowF b (t.drop at_)).2)))
    else addF t wait t.length
/-- The delta of a target upon a base. -/
def makeF (b t : List UInt8) : List UInt8 := numF b.length ++ (numF t.length ++ goF b t (t.length + 1) 0 0)
theorem go_none {b t : List UInt8} {f at_ x p : Nat} (h : at_ < t.length) (e : rowF b (t.drop at_) = (p, 0)) : goF b t (f + 1) at_ x = goF b t f (at_ + 1) x := by
  show (if at_ < t.length then _ else _) = _
  rw [if_pos h, e, if_pos rfl]
theorem go_row {b t : List UInt8} {f at_ x p l : Nat} (h : at_ < t.length) (e : rowF b (t.drop at_) = (p, l)) (hl : l ≠ 0) : goF b t (f + 1) at_ x = addF t x at_ ++ (numF (2 * l + 1) ++ (numF p ++ goF b t f (at_ + l) (at_ + l))) := by
  show (if at_ < t.length then _ else _) = _
  rw [if_pos h, e, if_neg hl]
theorem go_end {b t : List UInt8} {f at_ x : Nat} (h : ¬ at_ < t.length) : goF b t (f + 1) at_ x = addF t x t.length := by
  show (if at_ < t.length then _ else _) = _
  rw [if_neg h]
theorem RowIs.le {b w : List UInt8} {p l : Nat} (h : RowIs b w p l) : l ≤ w.length ∧ p ≤ b.length := by
  rcases h with ⟨_, hL⟩ | ⟨rfl, rfl, _⟩
  · have := lcp_le_right (b.drop p) w
    rw [hL.2.1] at this
    exact ⟨this, Nat.le_of_lt hL.1⟩
  · exact ⟨Nat.zero_le _, Nat.zero_le _⟩
theorem RowIs.eight {b w : List UInt8} {p l : Nat} (h : RowIs b w p l) (h0 : l ≠ 0) : 8 ≤ l := by
  rcases h with ⟨h, _⟩ | ⟨_, h, _⟩
  · exact h
  · exact absurd h h0
theorem RowsOf.keep {w w' : World} {lo : Nat} {b : List UInt8} {a : Option Addr} {n c gR : Nat} (h : RowsOf w lo b a n c gR) (hs : w.heap.size ≤ w'.heap.size) (hk : ∀ k, lo ≤ k → k < w.heap.size → w'.heap[k]? = w.heap[k]?) : RowsOf w' lo b a n c gR := by
  obtain ⟨gp, kb, k, v3, P, Bg, hR, hP, hB, hl, ht⟩ := h
  refine ⟨gp, kb, k, v3, P, Bg, hR.keep hs (hk gR hl.1 hR.lt) (hk gp hl.2.1 hR.pl.2.1) (hk kb hl.2.2 hR.mp.lt), hP, hB, hl, ?_⟩
  rcases ht with h0 | ⟨gl, cl, T, h1, h2, h3, h4⟩
  · exact .inl h0
  · exact .inr ⟨gl, cl, T, h1, h2, h3.block (hk gl h2 h3.2.1) hs, h4⟩
/-- The state of Make, its memory beside: the boxes of the target, the delta, the closure and of where bytes wait, and what find made. -/
structure MkW (s : Nat) (w0 wf W : World) (lo : Nat) (at3 v : Value) (out : List UInt8) (x : Nat) : Prop where
  d : DBox W (s + 1) (s + 4) v out
  t : W.cell? ⟨s, 0, none⟩ = some at3
  f : W.cell? ⟨s + 1 + 1, 0, none⟩ = some (.func (.func 16) #[] #[.pointer (some ⟨s + 1, 0, none⟩)])
  x : W.cell? ⟨s + 1 + 1 + 1, 0, none⟩ = some (.int .i64 (x : Nat))
  fx : W.frozen? ⟨s + 1 + 1 + 1, 0, none⟩ = false
  low : Below s w0 W
  above : s + 4 ≤ lo
  size : wf.heap.size ≤ W.heap.size
  same : ∀ k, lo ≤ k → k < wf.heap.size → W.heap[k]? = wf.heap[k]?
  apart : ∀ k, lo ≤ k → k < wf.heap.size → v.ownBlock ≠ some k
section
variable {s : Nat} {w0 wf W W' : World} {lo0 : Nat} {at3 v v' : Value} {out out' : List UInt8} {x : Nat}
theorem MkW.below (h : MkW s w0 wf W lo0 at3 v out x) (hb : Below W.heap.size W W') : MkW s w0 wf W' lo0 at3 v out x := by
  have hle := h.d.le
  have hlt : ∀ k, k < s + 4 → k < W.heap.size := fun k hk => by omega
  have hc : ∀ k, k < s + 4 → W'.cell? ⟨k, 0, none⟩ = W.cell? ⟨k, 0, none⟩ := fun k hk => hb.cell (p := ⟨k, 0, none⟩) (hlt k hk)
  have hf : ∀ k, k < s + 4 → W'.frozen? ⟨k, 0, none⟩ = W.frozen? ⟨k, 0, none⟩ := fun k hk => World.frozen?_of_block (a := ⟨k, 0, none⟩) (hb.block k (hlt k hk))
  exact ⟨⟨(hc _ (by omega)).trans h.d.cell, (hf _ (by omega)).trans h.d.free, h.d.own.below hb, h.d.lt, Nat.le_trans h.d.le hb.size⟩, (hc _ (by omega)).trans h.t, (hc _ (by omega)).trans h.f, (hc _ (by omega)).trans h.x, (hf _ (by omega)).trans h.fx,
    ⟨hb.os.trans h.low.os, hb.tape.trans h.low.tape, hb.output.trans h.low.output, Nat.le_trans h.low.size hb.size, fun k hk => by rw [hb.block k (hlt k (by omega))]; exact h.low.block k hk⟩, h.above, Nat.le_trans h.size hb.size, fun k h1 h2 => by rw [hb.block k (Nat.lt_of_lt_of_le h2 h.size)]; exact h.same k h1 h2, h.apart⟩
theorem MkW.told (h : MkW s w0 wf W lo0 at3 v out x) (hs : Step (s + 1) v W W') (ht : Told W v v') (hd : DBox W' (s + 1) (s + 4) v' out') : MkW s w0 wf W' lo0 at3 v' out' x := by
  have hlo := h.above
  have hsz := h.size
  refine ⟨hd, (hs.cell h.d (by omega) (by omega)).trans h.t, (hs.cell h.d (by omega) (by omega)).trans h.f, (hs.cell h.d (by omega) (by omega)).trans h.x, ?_, hs.below h.d h.low (by omega) (by omega), h.above, Nat.le_trans h.size hs.size, fun k h1 h2 => ?_, fun k h1 h2 h3 => ?_⟩
  · have hle := h.d.le
    rw [World.frozen?_of_block (a := ⟨s + 1 + 1 + 1, 0, none⟩) (hs.block (s + 1 + 1 + 1) (by omega) (by omega) (fun e => by have := h.d.own.grown _ e; omega))]
    exact h.fx
  · rw [hs.block k (by omega) (by omega) (h.apart k h1 h2)]; exact h.same k h1 h2
  · rcases ht with e | ⟨k', e, hk'⟩
    · rw [e] at h3; exact h.apart k h1 h2 h3
    · rw [e] at h3; have := Option.some.inj h3; omega
theorem MkW.setx (h : MkW s w0 wf W lo0 at3 v out x) (y : Nat) : MkW s w0 wf (W.setCell ⟨s + 1 + 1 + 1, 0, none⟩ (.int .i64 (y : Nat))) lo0 at3 v out y := by
  have hlo := h.above
  have e : ∀ k, k ≠ s + 1 + 1 + 1 → (W.setCell ⟨s + 1 + 1 + 1, 0, none⟩ (.int .i64 (y : Nat))).cell? ⟨k, 0, none⟩ = W.cell? ⟨k, 0, none⟩ := fun k hk => World.cell?_setCell_other (w := W) (a := ⟨s + 1 + 1 + 1, 0, none⟩) (b := ⟨k, 0, none⟩) (v := _) (h := fun e => hk (by injection e with e1 _ _; exact e1.symm))
  have hs : (W.setCell ⟨s + 1 + 1 + 1, 0, none⟩ (.int .i64 (y : Nat))).heap.size = W.heap.size := by simp
  refine ⟨⟨by rw [e _ (by omega)]; exact h.d.cell, by rw [World.frozen?_setCell]; exact h.d.free, ownsRow_setCell_below h.d.own (a := ⟨s + 1 + 1 + 1, 0, none⟩) (by show s + 1 + 1 + 1 < s + 4; omega) _, h.d.lt, by rw [hs]; exact h.d.le⟩, by rw [e _ (by omega)]; exact h.t, by rw [e _ (by omega)]; exact h.f, World.cell?_setCell_same (a := ⟨s + 1 + 1 + 1, 0, none⟩) (v := _) (h := h.x), by rw [World.frozen?_setCell]; exact h.fx, h.low.setCell (p := ⟨s + 1 + 1 + 1, 0, none⟩) (by show s ≤ s + 1 + 1 + 1; omega) _, h.above, by rw [hs]; exact h.size, fun k h1 h2 => ?_, h.apart⟩
  rw [heap_setCell_other W ⟨s + 1 + 1 + 1, 0, none⟩ k _ (by show k ≠ s + 1 + 1 + 1; omega)]; exact h.same k h1 h2
theorem MkW.refound (h : MkW s w0 wf W lo0 at3 v out x) (hb : Below W.heap.size W W') : MkW s w0 W' W' W.heap.size at3 v out x := by
  have h1 := h.below hb
  exact ⟨h1.d, h1.t, h1.f, h1.x, h1.fx, h1.low, h.d.le, Nat.le_refl _, fun _ _ _ => rfl, fun k h2 _ h4 => by have := (World.ownsRow.lt h.d.own k h4).2; omega⟩
theorem MkW.rows (h : MkW s w0 wf W lo0 at3 v out x) {b : List UInt8} {a : Option Addr} {n c gR : Nat} (hr : RowsOf wf lo0 b a n c gR) : RowsOf W lo0 b a n c gR := hr.keep h.size h.same
end
end Go.Proofs.Ytheigemfbcgjcaa
