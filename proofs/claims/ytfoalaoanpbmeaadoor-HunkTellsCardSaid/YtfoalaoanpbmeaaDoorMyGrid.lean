/-
  The rest's costs, laid out as rows of numbers: plainly, and in memory.
-/
import Derived.Test.YtfoalaoanpbmeaaDoorMyScript
namespace Go.Proofs.YtfoalaoanpbmeaaDoor
open Go.RowKit My

/-- The rest's cost behind so many of each. -/
def cF (A B : List Int) (i j : Nat) : Int := ((cst (eq2 A B) (A.length - i) (B.length - j) : Nat) : Int)
def mF (A B : List Int) (i j : Nat) : List Int := mv (eq2 A B) (A.length - i) (B.length - j)
section
variable {A B : List Int} {i j : Nat}
theorem cF_i (hi : i = A.length) (hj : j ≤ B.length) : cF A B i j = (B.length : Int) - j := by
  unfold cF; rw [hi, Nat.sub_self, cst_l]; omega
theorem cF_j (hj : j = B.length) (hi : i ≤ A.length) : cF A B i j = (A.length : Int) - i := by
  unfold cF; rw [hj, Nat.sub_self, cst_r]; omega
theorem eq2_at (hi : i < A.length) (hj : j < B.length) : eq2 A B (A.length - (i + 1)) (B.length - (j + 1)) = (A.getD i 0 == B.getD j 0) := by
  unfold eq2
  rw [show A.length - 1 - (A.length - (i + 1)) = i by omega, show B.length - 1 - (B.length - (j + 1)) = j by omega]
theorem cF_eq (hi : i < A.length) (hj : j < B.length) (h : A.getD i 0 = B.getD j 0) : cF A B i j = cF A B (i + 1) (j + 1) := by
  unfold cF
  rw [show A.length - i = (A.length - (i + 1)) + 1 by omega, show B.length - j = (B.length - (j + 1)) + 1 by omega, cst_yes (by rw [eq2_at hi hj]; simpa using h)]
theorem cF_ne (hi : i < A.length) (hj : j < B.length) (h : ¬ A.getD i 0 = B.getD j 0) : cF A B i j = 1 + min (cF A B (i + 1) j) (cF A B i (j + 1)) := by
  unfold cF
  have e1 : A.length - i = (A.length - (i + 1)) + 1 := by omega
  have e2 : B.length - j = (B.length - (j + 1)) + 1 := by omega
  rw [e1, e2, cst_no (by rw [eq2_at hi hj]; simpa using h)]
  omega
theorem cF_lt (hi : i < A.length) (hj : j < B.length) (h : ¬ A.getD i 0 = B.getD j 0) (hc : cF A B (i + 1) j < cF A B i (j + 1)) : cF A B i j = 1 + cF A B (i + 1) j := by rw [cF_ne hi hj h]; omega
theorem cF_ge (hi : i < A.length) (hj : j < B.length) (h : ¬ A.getD i 0 = B.getD j 0) (hc : ¬ cF A B (i + 1) j < cF A B i (j + 1)) : cF A B i j = 1 + cF A B i (j + 1) := by rw [cF_ne hi hj h]; omega
theorem cF_bd (A B : List Int) (i j : Nat) : 0 ≤ cF A B i j ∧ cF A B i j ≤ (A.length : Int) + B.length := by
  unfold cF
  have := (cst_bd (E := eq2 A B) (A.length - i) (B.length - j)).1
  omega
theorem mF_end (hi : i = A.length) (hj : j = B.length) : mF A B i j = [] := by unfold mF; rw [hi, hj, Nat.sub_self, Nat.sub_self, mv_nil]
theorem mF_keep (hi : i < A.length) (hj : j < B.length) (h : A.getD i 0 = B.getD j 0) : mF A B i j = 1 :: mF A B (i + 1) (j + 1) := by
  unfold mF
  rw [show A.length - i = (A.length - (i + 1)) + 1 by omega, show B.length - j = (B.length - (j + 1)) + 1 by omega, mv_yes (by rw [eq2_at hi hj]; simpa using h)]
theorem mF_r (hi : i < A.length) (hj : j = B.length) : mF A B i j = 2 :: mF A B (i + 1) j := by
  unfold mF
  rw [hj, Nat.sub_self, show A.length - i = (A.length - (i + 1)) + 1 by omega, mv_r]
theorem mF_l (hi : i = A.length) (hj : j < B.length) : mF A B i j = 3 :: mF A B i (j + 1) := by
  unfold mF
  rw [hi, Nat.sub_self, show B.length - j = (B.length - (j + 1)) + 1 by omega, mv_l]
theorem mF_drop (hi : i < A.length) (hj : j < B.length) (h : ¬ A.getD i 0 = B.getD j 0) (hc : cF A B (i + 1) j ≤ cF A B i (j + 1)) : mF A B i j = 2 :: mF A B (i + 1) j := by
  unfold cF at hc
  unfold mF
  have e1 : A.length - i = (A.length - (i + 1)) + 1 := by omega
  have e2 : B.length - j = (B.length - (j + 1)) + 1 := by omega
  rw [e1, e2] at hc
  rw [e1, e2, mv_drop (by rw [eq2_at hi hj]; simpa using h) (by omega)]
theorem mF_add (hi : i < A.length) (hj : j < B.length) (h : ¬ A.getD i 0 = B.getD j 0) (hc : ¬ cF A B (i + 1) j ≤ cF A B i (j + 1)) : mF A B i j = 3 :: mF A B i (j + 1) := by
  unfold cF at hc
  unfold mF
  have e1 : A.length - i = (A.length - (i + 1)) + 1 := by omega
  have e2 : B.length - j = (B.length - (j + 1)) + 1 := by omega
  rw [e1, e2] at hc
  rw [e1, e2, mv_add (by rw [eq2_at hi hj]; simpa using h) (by omega)]
theorem mF_len (A B : List Int) (i j : Nat) : (mF A B i j).length ≤ (A.length - i) + (B.length - j) := mv_len _ _ _ (Nat.le_refl _)
end

def J (z : Int) : Value := .int .i64 z
/-- Rows of numbers, of which those from one on are there; of that one, what stands from a place on. -/
structure Grid (W : World) (lo g N M i j : Nat) (bk : Nat → Nat) (f : Nat → Nat → Int) : Prop where
  gl : lo ≤ g
  row : ∃ cs : List Value, RowAt W g 92 cs ∧ cs.length = N ∧ ∀ r, i ≤ r → r < N → cs[r]? = some (.slice (some ⟨bk r, 0, none⟩) M M)
  ne : ∀ r, i ≤ r → r < N → lo ≤ bk r ∧ bk r ≠ g
  inj : ∀ r s, i ≤ r → r < N → i ≤ s → s < N → r ≠ s → bk r ≠ bk s
  rows : ∀ r, i ≤ r → r < N → ∃ L : List Int, L.length = M ∧ RowAt W (bk r) 3 (L.map J) ∧ ∀ t, t < M → (i < r ∨ j ≤ t) → L[t]? = some (f r t)
section
variable {W W' : World} {lo g N M i j : Nat} {bk : Nat → Nat} {f : Nat → Nat → Int}
theorem Grid.on (h : Grid W lo g N M i j bk f) (hb : Below W.heap.size W W') : Grid W' lo g N M i j bk f := by
  obtain ⟨h1, ⟨cs, h2, h3⟩, h4, h5, h6⟩ := h
  exact ⟨h1, ⟨cs, h2.below hb, h3⟩, h4, h5, fun r h7 h8 => by obtain ⟨L, h9, h10, h11⟩ := h6 r h7 h8; exact ⟨L, h9, h10.below hb, h11⟩⟩
theorem Grid.glt (h : Grid W lo g N M i j bk f) : g < W.heap.size := by obtain ⟨cs, h2, h3⟩ := h.row; exact h2.lt
theorem Grid.blt (h : Grid W lo g N M i j bk f) {r : Nat} (h1 : i ≤ r) (h2 : r < N) : bk r < W.heap.size := by obtain ⟨L, _, h3, _⟩ := h.rows r h1 h2; exact h3.lt
theorem Grid.head (h : Grid W lo g N M i j bk f) {r : Nat} (h1 : i ≤ r) (h2 : r < N) : W.cell? ⟨g, r, none⟩ = some (.slice (some ⟨bk r, 0, none⟩) M M) := by
  obtain ⟨cs, h3, h4, h5⟩ := h.row
  exact h3.cell r (h5 r h1 h2)
theorem Grid.cell (h : Grid W lo g N M i j bk f) {r t : Nat} (h1 : i ≤ r) (h2 : r < N) (h3 : t < M) (h4 : i < r ∨ j ≤ t) : W.cell? ⟨bk r, t, none⟩ = some (.int .i64 (f r t)) := by
  obtain ⟨L, _, h6, h7⟩ := h.rows r h1 h2
  exact h6.cell t (by rw [List.getElem?_map, h7 t h3 h4]; rfl)
theorem Grid.gsome (h : Grid W lo g N M i j bk f) {r : Nat} (h2 : r < N) : ∃ v, W.cell? ⟨g, r, none⟩ = some v := by
  obtain ⟨cs, h3, h4, h5⟩ := h.row
  exact ⟨cs[r], h3.cell r (List.getElem?_eq_getElem (by omega))⟩
theorem Grid.bsome (h : Grid W lo g N M i j bk f) {r t : Nat} (h1 : i ≤ r) (h2 : r < N) (h3 : t < M) : ∃ z, W.cell? ⟨bk r, t, none⟩ = some (.int .i64 z) := by
  obtain ⟨L, h5, h6, h7⟩ := h.rows r h1 h2
  exact ⟨L[t], h6.cell t (by rw [List.getElem?_map, List.getElem?_eq_getElem (by omega)]; rfl)⟩
theorem Grid.gfree (h : Grid W lo g N M i j bk f) (k : Nat) : W.frozen? ⟨g, k, none⟩ = false := by obtain ⟨cs, h3, _⟩ := h.row; exact h3.free k
theorem Grid.bfree (h : Grid W lo g N M i j bk f) {r : Nat} (h1 : i ≤ r) (h2 : r < N) (k : Nat) : W.frozen? ⟨bk r, k, none⟩ = false := by obtain ⟨L, _, h3, _⟩ := h.rows r h1 h2; exact h3.free k
theorem Grid.start {w' : World} (hl : lo ≤ g) {cs : List Value} (hr : RowAt w' g 92 cs) (hN : cs.length = N) (bk : Nat → Nat) : Grid w' lo g N M N 0 bk f :=
  ⟨hl, ⟨cs, hr, hN, fun r h1 h2 => by omega⟩, fun r h1 h2 => by omega, fun r s h1 h2 => by omega, fun r h1 h2 => by omega⟩
def setF (bk : Nat → Nat) (i b : Nat) : Nat → Nat := fun r => if r = i then b else bk r
theorem setF_at (bk : Nat → Nat) (i b : Nat) : setF bk i b i = b := by unfold setF; rw [if_pos rfl]
theorem setF_no {bk : Nat → Nat} {i b r : Nat} (h : r ≠ i) : setF bk i b r = bk r := by unfold setF; rw [if_neg h]
theorem Grid.made (h : Grid W lo g N M (i + 1) 0 bk f) (_hi : i < N) {L : List Int} (hL : L.length = M) {b : Nat} (hb : W.heap.size ≤ b) (hr : RowAt W' b 3 (L.map J)) (hg : W.grownBy W' none) :
    Grid (W'.setCell ⟨g, i, none⟩ (.slice (some ⟨b, 0, none⟩) M M)) lo g N M i M (setF bk i b) f := by
  have hgl := h.glt
  have hb2 : ∀ r, i + 1 ≤ r → r < N → bk r < W.heap.size := fun r h1 h2 => h.blt h1 h2
  obtain ⟨h1, ⟨cs, h2, h3, h3b⟩, h4, h5, h6⟩ := h
  refine ⟨h1, ⟨cs.set i (.slice (some ⟨b, 0, none⟩) M M), (h2.grown hg (by simp)).set i _, by rw [List.length_set, h3], fun r h7 h8 => ?_⟩, fun r h7 h8 => ?_, fun r s h7 h8 h9 h10 h11 => ?_, fun r h7 h8 => ?_⟩
  · rcases Nat.eq_or_lt_of_le h7 with rfl | h7
    · rw [setF_at]; simp [h3, h8]
    · rw [setF_no (by omega), List.getElem?_set_ne (by omega)]; exact h3b r h7 h8
  · rcases Nat.eq_or_lt_of_le h7 with rfl | h7
    · rw [setF_at]; omega
    · rw [setF_no (by omega)]; exact h4 r h7 h8
  · rcases Nat.eq_or_lt_of_le h7 with rfl | h7
    · rw [setF_at, setF_no (by omega)]
      have := hb2 s (by omega) h10; omega
    · rcases Nat.eq_or_lt_of_le h9 with rfl | h9
      · rw [setF_at, setF_no (by omega)]
        have := hb2 r (by omega) h8; omega
      · rw [setF_no (by omega), setF_no (by omega)]; exact h5 r s h7 h8 h9 h10 h11
  · rcases Nat.eq_or_lt_of_le h7 with rfl | h7
    · rw [setF_at]
      exact ⟨L, hL, hr.other (a := ⟨g, i, none⟩) (by show b ≠ g; omega) _, fun t ht h => by omega⟩
    · rw [setF_no (by omega)]
      obtain ⟨L2, h9, h10, h11⟩ := h6 r h7 h8
      exact ⟨L2, h9, (h10.grown hg (by simp)).other (a := ⟨g, i, none⟩) (h4 r h7 h8).2 _, fun t ht _ => h11 t ht (.inr (Nat.zero_le _))⟩
theorem Grid.store (h : Grid W lo g N M i (j + 1) bk f) (hi : i < N) (hj : j < M) {z : Int} (hz : z = f i j) : Grid (W.setCell ⟨bk i, j, none⟩ (.int .i64 z)) lo g N M i j bk f := by
  obtain ⟨h1, ⟨cs, h2, h3, h3b⟩, h4, h5, h6⟩ := h
  refine ⟨h1, ⟨cs, h2.other (a := ⟨bk i, j, none⟩) (fun e => (h4 i (Nat.le_refl _) hi).2 e.symm) _, h3, h3b⟩, h4, h5, fun r h7 h8 => ?_⟩
  obtain ⟨L, h9, h10, h11⟩ := h6 r h7 h8
  rcases Nat.eq_or_lt_of_le h7 with rfl | h7
  · refine ⟨L.set j z, by rw [List.length_set, h9], ?_, fun t ht h => ?_⟩
    · rw [List.map_set]; exact h10.set j _
    · by_cases e : t = j
      · subst e; rw [List.getElem?_set_self (by omega), hz]
      · rw [List.getElem?_set_ne (by omega)]; exact h11 t ht (by omega)
  · exact ⟨L, h9, h10.other (a := ⟨bk i, j, none⟩) (fun e => h5 r i (by omega) h8 (Nat.le_refl _) hi (by omega) e) _, fun t ht _ => h11 t ht (.inl h7)⟩
theorem Grid.next (h : Grid W lo g N M i 0 bk f) : Grid W lo g N M i 0 bk f := h
end
/-- What was made whole is a row. -/
theorem row_of_own {α : Type} {mk : α → Value} {E : TypeId} {w : World} {base g n : Nat} {L : List α} (h : Own1 mk E w base (.slice (some ⟨g, 0, none⟩) n n) L) (hn : L.length = n) : RowAt w g E (L.map mk) := by
  obtain ⟨_, h2⟩ := h
  rcases h2 with ⟨h2, _⟩ | ⟨g', cap, cur, hv, _, hg, _, _, hs, ht⟩
  · cases h2
  · simp only [Value.slice.injEq, Option.some.injEq, Addr.mk.injEq, and_true] at hv
    obtain ⟨rfl, h3, rfl⟩ := hv
    unfold RowAt
    rw [hg, ← ht, List.take_of_length_le (by rw [Array.length_toList]; omega)]
theorem infoJ : (Tryd.prog.info? 3).map (fun i => (i.zero, i.size, i.bytes)) = some (some (J 0), 1, 8) := by kernel_rfl
theorem infoJs : (Tryd.prog.info? 92).map (fun i => (i.zero, i.size, i.bytes)) = some (some ((fun v : Value => v) (.slice none 0 0)), 1, 24) := by kernel_rfl
#print axioms Grid.made
#print axioms Grid.store
end Go.Proofs.YtfoalaoanpbmeaaDoor
