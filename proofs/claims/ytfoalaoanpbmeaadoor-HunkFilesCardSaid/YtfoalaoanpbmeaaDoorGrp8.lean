/-
  Merged: MyGrid, MyCosts.
-/
import Derived.Test.YtfoalaoanpbmeaaDoorMyScript
namespace Go.Proofs.YtfoalaoanpbmeaaDoor
open Go.RowKit My

/-- The rest's cost behind so many of each. -/
def cF (A B : List Int) (i j : Nat) : Int := ((cst (eq2 A B) (A.length - i) (B.length - j) : Nat) : Int)
def mF (A B : List Int) (i j : Nat) : List Int := mv (eq2 A B) (A.length - i) (B.length - j)
section
variable {A B : List Int} {i j : Nat}
theorem cF_i (hi : i = A.length) (hj : j ≤ B.length) : cF A B i j = (B.length : Int) - j := by
  unfold cF; rw [hi, Nat.sub_self, cst_l]; omega
theorem cF_j (hj : j = B.length) (hi : i ≤ A.length) : cF A B i j = (A.length : Int) - i := by
  unfold cF; rw [hj, Nat.sub_self, cst_r]; omega
theorem eq2_at (hi : i < A.length) (hj : j < B.length) : eq2 A B (A.length - (i + 1)) (B.length - (j + 1)) = (A.getD i 0 == B.getD j 0) := by
  unfold eq2
  rw [show A.length - 1 - (A.length - (i + 1)) = i by omega, show B.length - 1 - (B.length - (j + 1)) = j by omega]
theorem cF_eq (hi : i < A.length) (hj : j < B.length) (h : A.getD i 0 = B.getD j 0) : cF A B i j = cF A B (i + 1) (j + 1) := by
  unfold cF
  rw [show A.length - i = (A.length - (i + 1)) + 1 by omega, show B.length - j = (B.length - (j + 1)) + 1 by omega, cst_yes (by rw [eq2_at hi hj]; simpa using h)]
theorem cF_ne (hi : i < A.length) (hj : j < B.length) (h : ¬ A.getD i 0 = B.getD j 0) : cF A B i j = 1 + min (cF A B (i + 1) j) (cF A B i (j + 1)) := by
  unfold cF
  have e1 : A.length - i = (A.length - (i + 1)) + 1 := by omega
  have e2 : B.length - j = (B.length - (j + 1)) + 1 := by omega
  rw [e1, e2, cst_no (by rw [eq2_at hi hj]; simpa using h)]
  omega
theorem cF_lt (hi : i < A.length) (hj : j < B.length) (h : ¬ A.getD i 0 = B.getD j 0) (hc : cF A B (i + 1) j < cF A B i (j + 1)) : cF A B i j = 1 + cF A B (i + 1) j := by rw [cF_ne hi hj h]; omega
theorem cF_ge (hi : i < A.length) (hj : j < B.length) (h : ¬ A.getD i 0 = B.getD j 0) (hc : ¬ cF A B (i + 1) j < cF A B i (j + 1)) : cF A B i j = 1 + cF A B i (j + 1) := by rw [cF_ne hi hj h]; omega
theorem cF_bd (A B : List Int) (i j : Nat) : 0 ≤ cF A B i j ∧ cF A B i j ≤ (A.length : Int) + B.length := by
  unfold cF
  have := (cst_bd (E := eq2 A B) (A.length - i) (B.length - j)).1
  omega
theorem mF_end (hi : i = A.length) (hj : j = B.length) : mF A B i j = [] := by unfold mF; rw [hi, hj, Nat.sub_self, Nat.sub_self, mv_nil]
theorem mF_keep (hi : i < A.length) (hj : j < B.length) (h : A.getD i 0 = B.getD j 0) : mF A B i j = 1 :: mF A B (i + 1) (j + 1) := by
  unfold mF
  rw [show A.length - i = (A.length - (i + 1)) + 1 by omega, show B.length - j = (B.length - (j + 1)) + 1 by omega, mv_yes (by rw [eq2_at hi hj]; simpa using h)]
theorem mF_r (hi : i < A.length) (hj : j = B.length) : mF A B i j = 2 :: mF A B (i + 1) j := by
  unfold mF
  rw [hj, Nat.sub_self, show A.length - i = (A.length - (i + 1)) + 1 by omega, mv_r]
theorem mF_l (hi : i = A.length) (hj : j < B.length) : mF A B i j = 3 :: mF A B i (j + 1) := by
  unfold mF
  rw [hi, Nat.sub_self, show B.length - j = (B.length - (j + 1)) + 1 by omega, mv_l]
theorem mF_drop (hi : i < A.length) (hj : j < B.length) (h : ¬ A.getD i 0 = B.getD j 0) (hc : cF A B (i + 1) j ≤ cF A B i (j + 1)) : mF A B i j = 2 :: mF A B (i + 1) j := by
  unfold cF at hc
  unfold mF
  have e1 : A.length - i = (A.length - (i + 1)) + 1 := by omega
  have e2 : B.length - j = (B.length - (j + 1)) + 1 := by omega
  rw [e1, e2] at hc
  rw [e1, e2, mv_drop (by rw [eq2_at hi hj]; simpa using h) (by omega)]
theorem mF_add (hi : i < A.length) (hj : j < B.length) (h : ¬ A.getD i 0 = B.getD j 0) (hc : ¬ cF A B (i + 1) j ≤ cF A B i (j + 1)) : mF A B i j = 3 :: mF A B i (j + 1) := by
  unfold cF at hc
  unfold mF
  have e1 : A.length - i = (A.length - (i + 1)) + 1 := by omega
  have e2 : B.length - j = (B.length - (j + 1)) + 1 := by omega
  rw [e1, e2] at hc
  rw [e1, e2, mv_add (by rw [eq2_at hi hj]; simpa using h) (by omega)]
theorem mF_len (A B : List Int) (i j : Nat) : (mF A B i j).length ≤ (A.length - i) + (B.length - j) := mv_len _ _ _ (Nat.le_refl _)
end

def J (z : Int) : Value := .int .i64 z
/-- Rows of numbers, of which those from one on are there; of that one, what stands from a place on. -/
structure Grid (W : World) (lo g N M i j : Nat) (bk : Nat → Nat) (f : Nat → Nat → Int) : Prop where
  gl : lo ≤ g
  row : ∃ cs : List Value, RowAt W g 92 cs ∧ cs.length = N ∧ ∀ r, i ≤ r → r < N → cs[r]? = some (.slice (some ⟨bk r, 0, none⟩) M M)
  ne : ∀ r, i ≤ r → r < N → lo ≤ bk r ∧ bk r ≠ g
  inj : ∀ r s, i ≤ r → r < N → i ≤ s → s < N → r ≠ s → bk r ≠ bk s
  rows : ∀ r, i ≤ r → r < N → ∃ L : List Int, L.length = M ∧ RowAt W (bk r) 3 (L.map J) ∧ ∀ t, t < M → (i < r ∨ j ≤ t) → L[t]? = some (f r t)
section
variable {W W' : World} {lo g N M i j : Nat} {bk : Nat → Nat} {f : Nat → Nat → Int}
theorem Grid.on (h : Grid W lo g N M i j bk f) (hb : Below W.heap.size W W') : Grid W' lo g N M i j bk f := by
  obtain ⟨h1, ⟨cs, h2, h3⟩, h4, h5, h6⟩ := h
  exact ⟨h1, ⟨cs, h2.below hb, h3⟩, h4, h5, fun r h7 h8 => by obtain ⟨L, h9, h10, h11⟩ := h6 r h7 h8; exact ⟨L, h9, h10.below hb, h11⟩⟩
theorem Grid.glt (h : Grid W lo g N M i j bk f) : g < W.heap.size := by obtain ⟨cs, h2, h3⟩ := h.row; exact h2.lt
theorem Grid.blt (h : Grid W lo g N M i j bk f) {r : Nat} (h1 : i ≤ r) (h2 : r < N) : bk r < W.heap.size := by obtain ⟨L, _, h3, _⟩ := h.rows r h1 h2; exact h3.lt
theorem Grid.head (h : Grid W lo g N M i j bk f) {r : Nat} (h1 : i ≤ r) (h2 : r < N) : W.cell? ⟨g, r, none⟩ = some (.slice (some ⟨bk r, 0, none⟩) M M) := by
  obtain ⟨cs, h3, h4, h5⟩ := h.row
  exact h3.cell r (h5 r h1 h2)
theorem Grid.cell (h : Grid W lo g N M i j bk f) {r t : Nat} (h1 : i ≤ r) (h2 : r < N) (h3 : t < M) (h4 : i < r ∨ j ≤ t) : W.cell? ⟨bk r, t, none⟩ = some (.int .i64 (f r t)) := by
  obtain ⟨L, _, h6, h7⟩ := h.rows r h1 h2
  exact h6.cell t (by rw [List.getElem?_map, h7 t h3 h4]; rfl)
theorem Grid.gsome (h : Grid W lo g N M i j bk f) {r : Nat} (h2 : r < N) : ∃ v, W.cell? ⟨g, r, none⟩ = some v := by
  obtain ⟨cs, h3, h4, h5⟩ := h.row
  exact ⟨cs[r], h3.cell r (List.getElem?_eq_getElem (by omega))⟩
theorem Grid.bsome (h : Grid W lo g N M i j bk f) {r t : Nat} (h1 : i ≤ r) (h2 : r < N) (h3 : t < M) : ∃ z, W.cell? ⟨bk r, t, none⟩ = some (.int .i64 z) := by
  obtain ⟨L, h5, h6, h7⟩ := h.rows r h1 h2
  exact ⟨L[t], h6.cell t (by rw [List.getElem?_map, List.getElem?_eq_getElem (by omega)]; rfl)⟩
theorem Grid.gfree (h : Grid W lo g N M i j bk f) (k : Nat) : W.frozen? ⟨g, k, none⟩ = false := by obtain ⟨cs, h3, _⟩ := h.row; exact h3.free k
theorem Grid.bfree (h : Grid W lo g N M i j bk f) {r : Nat} (h1 : i ≤ r) (h2 : r < N) (k : Nat) : W.frozen? ⟨bk r, k, none⟩ = false := by obtain ⟨L, _, h3, _⟩ := h.rows r h1 h2; exact h3.free k
theorem Grid.start {w' : World} (hl : lo ≤ g) {cs : List Value} (hr : RowAt w' g 92 cs) (hN : cs.length = N) (bk : Nat → Nat) : Grid w' lo g N M N 0 bk f :=
  ⟨hl, ⟨cs, hr, hN, fun r h1 h2 => by omega⟩, fun r h1 h2 => by omega, fun r s h1 h2 => by omega, fun r h1 h2 => by omega⟩
def setF (bk : Nat → Nat) (i b : Nat) : Nat → Nat := fun r => if r = i then b else bk r
theorem setF_at (bk : Nat → Nat) (i b : Nat) : setF bk i b i = b := by unfold setF; rw [if_pos rfl]
theorem setF_no {bk : Nat → Nat} {i b r : Nat} (h : r ≠ i) : setF bk i b r = bk r := by unfold setF; rw [if_neg h]
theorem Grid.made (h : Grid W lo g N M (i + 1) 0 bk f) (_hi : i < N) {L : List Int} (hL : L.length = M) {b : Nat} (hb : W.heap.size ≤ b) (hr : RowAt W' b 3 (L.map J)) (hg : W.grownBy W' none) :
    Grid (W'.setCell ⟨g, i, none⟩ (.slice (some ⟨b, 0, none⟩) M M)) lo g N M i M (setF bk i b) f := by
  have hgl := h.glt
  have hb2 : ∀ r, i + 1 ≤ r → r < N → bk r < W.heap.size := fun r h1 h2 => h.blt h1 h2
  obtain ⟨h1, ⟨cs, h2, h3, h3b⟩, h4, h5, h6⟩ := h
  refine ⟨h1, ⟨cs.set i (.slice (some ⟨b, 0, none⟩) M M), (h2.grown hg (by simp)).set i _, by rw [List.length_set, h3], fun r h7 h8 => ?_⟩, fun r h7 h8 => ?_, fun r s h7 h8 h9 h10 h11 => ?_, fun r h7 h8 => ?_⟩
  · rcases Nat.eq_or_lt_of_le h7 with rfl | h7
    · rw [setF_at]; simp [h3, h8]
    · rw [setF_no (by omega), List.getElem?_set_ne (by omega)]; exact h3b r h7 h8
  · rcases Nat.eq_or_lt_of_le h7 with rfl | h7
    · rw [setF_at]; omega
    · rw [setF_no (by omega)]; exact h4 r h7 h8
  · rcases Nat.eq_or_lt_of_le h7 with rfl | h7
    · rw [setF_at, setF_no (by omega)]
      have := hb2 s (by omega) h10; omega
    · rcases Nat.eq_or_lt_of_le h9 with rfl | h9
      · rw [setF_at, setF_no (by omega)]
        have := hb2 r (by omega) h8; omega
      · rw [setF_no (by omega), setF_no (by omega)]; exact h5 r s h7 h8 h9 h10 h11
  · rcases Nat.eq_or_lt_of_le h7 with rfl | h7
    · rw [setF_at]
      exact ⟨L, hL, hr.other (a := ⟨g, i, none⟩) (by show b ≠ g; omega) _, fun t ht h => by omega⟩
    · rw [setF_no (by omega)]
      obtain ⟨L2, h9, h10, h11⟩ := h6 r h7 h8
      exact ⟨L2, h9, (h10.grown hg (by simp)).other (a := ⟨g, i, none⟩) (h4 r h7 h8).2 _, fun t ht _ => h11 t ht (.inr (Nat.zero_le _))⟩
theorem Grid.store (h : Grid W lo g N M i (j + 1) bk f) (hi : i < N) (hj : j < M) {z : Int} (hz : z = f i j) : Grid (W.setCell ⟨bk i, j, none⟩ (.int .i64 z)) lo g N M i j bk f := by
  obtain ⟨h1, ⟨cs, h2, h3, h3b⟩, h4, h5, h6⟩ := h
  refine ⟨h1, ⟨cs, h2.other (a := ⟨bk i, j, none⟩) (fun e => (h4 i (Nat.le_refl _) hi).2 e.symm) _, h3, h3b⟩, h4, h5, fun r h7 h8 => ?_⟩
  obtain ⟨L, h9, h10, h11⟩ := h6 r h7 h8
  rcases Nat.eq_or_lt_of_le h7 with rfl | h7
  · refine ⟨L.set j z, by rw [List.length_set, h9], ?_, fun t ht h => ?_⟩
    · rw [List.map_set]; exact h10.set j _
    · by_cases e : t = j
      · subst e; rw [List.getElem?_set_self (by omega), hz]
      · rw [List.getElem?_set_ne (by omega)]; exact h11 t ht (by omega)
  · exact ⟨L, h9, h10.other (a := ⟨bk i, j, none⟩) (fun e => h5 r i (by omega) h8 (Nat.le_refl _) hi (by omega) e) _, fun t ht _ => h11 t ht (.inl h7)⟩
theorem Grid.next (h : Grid W lo g N M i 0 bk f) : Grid W lo g N M i 0 bk f := h
end
/-- What was made whole is a row. -/
theorem row_of_own {α : Type} {mk : α → Value} {E : TypeId} {w : World} {base g n : Nat} {L : List α} (h : Own1 mk E w base (.slice (some ⟨g, 0, none⟩) n n) L) (hn : L.length = n) : RowAt w g E (L.map mk) := by
  obtain ⟨_, h2⟩ := h
  rcases h2 with ⟨h2, _⟩ | ⟨g', cap, cur, hv, _, hg, _, _, hs, ht⟩
  · cases h2
  · simp only [Value.slice.injEq, Option.some.injEq, Addr.mk.injEq, and_true] at hv
    obtain ⟨rfl, h3, rfl⟩ := hv
    unfold RowAt
    rw [hg, ← ht, List.take_of_length_le (by rw [Array.length_toList]; omega)]
theorem infoJ : (Tryd.prog.info? 3).map (fun i => (i.zero, i.size, i.bytes)) = some (some (J 0), 1, 8) := by kernel_rfl
theorem infoJs : (Tryd.prog.info? 92).map (fun i => (i.zero, i.size, i.bytes)) = some (some ((fun v : Value => v) (.slice none 0 0)), 1, 24) := by kernel_rfl
#print axioms Grid.made
#print axioms Grid.store
end Go.Proofs.YtfoalaoanpbmeaaDoor

namespace Go.Proofs.YtfoalaoanpbmeaaDoor
open Go.RowKit My

def CostsIs (A B : List Int) (w : World) (e : Ending) (w' : World) : Prop := ∃ (g : Nat) (bk : Nat → Nat), e = .returned (.slice (some ⟨g, 0, none⟩) (A.length + 1) (A.length + 1)) ∧ Grid w' w.heap.size g (A.length + 1) (B.length + 1) 0 0 bk (cF A B) ∧ Below w.heap.size w w'
set_option maxRecDepth 100000 in
set_option maxHeartbeats 4000000 in
theorem costs_any (A B : List Int) (aa ab : Option Addr) (n m ca cb : Nat) (w : World) (ha : Runs w aa n ca A) (hb : Runs w ab m cb B) (hA : n ≤ 10000) (hB : m ≤ 10000) :
    Calls Tryd.prog 43 #[.slice aa n ca, .slice ab m cb] w (CostsIs A B w) := by
  have HA := Lib.hid ha
  have HB := Lib.hid hb
  have HAL := Lib.hid ha.1
  have HBL := Lib.hid hb.1
  have hnI : (n : Int) ≤ 10000 := by omega
  have hmI : (m : Int) ≤ 10000 := by omega
  have hn0 : (0 : Int) ≤ n := by omega
  have hm0 : (0 : Int) ≤ m := by omega
  have q1 : (n : Int) + 1 = ((n + 1 : Nat) : Int) := by omega
  have q2 : (m : Int) + 1 = ((m + 1 : Nat) : Int) := by omega
  obtain ⟨N, hN⟩ : ∃ N, n + 1 = N := ⟨_, rfl⟩
  obtain ⟨M, hM⟩ : ∃ M, m + 1 = M := ⟨_, rfl⟩
  have HN := Lib.hid hN
  have HM := Lib.hid hM
  rw [hN] at q1
  rw [hM] at q2
  have hNI : (N : Int) ≤ 10001 := by omega
  have hMI : (M : Int) ≤ 10001 := by omega
  have HNs := Lib.hid (show N ≤ 1000000000 by omega)
  have HMs := Lib.hid (show M ≤ 1000000000 by omega)
  clear ha hb hA hB hN hM
  go_enter Tryd.func43, Tryd.ntmps43
  go_wp2_with (first
    | ((with_reducible show wpList _ _ _ (⟨some 16, _, _, _, _, _⟩ :: _) _ _); refine make1 (fun v : Value => v) (z0 := .slice none 0 0) Tryd.underlying90 infoJs rfl rfl _ _ rfl N rfl rfl HNs.out (by omega) ?_; intro w1 ho1 hg1
       have HB1 := Lib.hid ((Below.refl w.heap.size w).grown hg1 (Nat.le_refl _) (fun k hk => by cases hk))
       have R1 := row_of_own ho1 List.length_replicate
       rw [List.map_id'] at R1
       have G1 := Lib.hid (fun bk => Grid.start (N := N) (M := M) (f := cF A B) (Nat.le_refl w.heap.size) R1 List.length_replicate bk)
       clear ho1 hg1 R1))
  go_loopg [8] N (fun gh v8 W => ∃ (k : Nat) (V : Int) (bk : Nat → Nat), v8 = .int .i64 V ∧ gh = k ∧ V = (k : Int) - 1 ∧ k ≤ N ∧ Hid (Grid W w.heap.size w.heap.size N M k 0 bk (cF A B)) ∧ Hid (Below w.heap.size w W))
  case atStart => exact ⟨N, (n : Int), fun _ => 0, rfl, rfl, by have := HN.out; omega, Nat.le_refl _, Lib.hid (G1.out _), HB1⟩
  case round =>
    obtain ⟨k, V, bk, rfl, hgh, hV, hgN, HG, HBW⟩ := hrel
    have HGH := Lib.hid hgh
    clear hgh
    cases k with
    | zero =>
      obtain rfl : V = -1 := by omega
      clear hV hgN
      go_wp2
      go_ret
      exact ⟨w.heap.size, bk, by rw [HAL.out, HN.out]; rfl, by rw [HAL.out, HBL.out, HN.out, HM.out]; exact HG.out, HBW.out⟩
    | succ i =>
      obtain rfl : V = (i : Int) := by omega
      have HI := Lib.hid (show i < N by omega)
      have hiN : (i : Int) < (N : Int) := by omega
      have hi0 : (0 : Int) ≤ (i : Int) := by omega
      clear hV hgN
      go_wp2_with (first
        | ((with_reducible show wpList _ _ _ (⟨some 26, _, _, _, _, _⟩ :: _) _ _); refine make1 J (z0 := 0) Tryd.underlying92 infoJ rfl rfl _ _ rfl M rfl rfl HMs.out (by omega) ?_; intro w2 ho2 hg2
           have R2 := row_of_own ho2 List.length_replicate
           have G2 := Lib.hid (HG.out.made HI.out List.length_replicate (Nat.le_refl _) R2 hg2)
           have B2 := Lib.hid ((HBW.out.grown hg2 HBW.out.size (fun k hk => by cases hk)).setCell (p := ⟨w.heap.size, i, none⟩) (Nat.le_refl _) (.slice (some ⟨wr.heap.size, 0, none⟩) M M))
           have G0 := Lib.hid (HG.out.on ((Below.refl wr.heap.size wr).grown hg2 (Nat.le_refl _) (fun k hk => by cases hk)))
           have gf := G0.out.gfree i
           obtain ⟨gv, gc⟩ := G0.out.gsome HI.out
           clear ho2 hg2 R2))
      obtain ⟨bk2, hbk2⟩ : ∃ b, setF bk i wr.heap.size = b := ⟨_, rfl⟩
      rw [hbk2] at G2
      obtain ⟨W3, hW3⟩ : ∃ W, w2.setCell ⟨w.heap.size, i, none⟩ (.slice (some ⟨wr.heap.size, 0, none⟩) M M) = W := ⟨_, rfl⟩
      rw [hW3] at G2 B2
      rw [hW3]
      clear hbk2 hW3 gf gc
      go_loopg [9] M (fun gj v9 W => ∃ (t : Nat) (V : Int), v9 = .int .i64 V ∧ gj = t ∧ V = (t : Int) - 1 ∧ t ≤ M ∧ Hid (Grid W w.heap.size w.heap.size N M i t bk2 (cF A B)) ∧ Hid (Below w.heap.size w W))
      case atStart => exact ⟨M, (m : Int), rfl, rfl, by have := HM.out; omega, Nat.le_refl _, G2, B2⟩
      case round =>
        obtain ⟨t, V, rfl, hgj, hV, htM, HG2, HB2⟩ := hrel
        have HGJ := Lib.hid hgj
        clear hgj
        cases t with
        | zero =>
          obtain rfl : V = -1 := by omega
          clear hV htM
          go_wp2
          go_roundg i
          case measure => have := HGH.out; omega
          case rel => exact ⟨i, (i : Int) - 1, bk2, rfl, rfl, rfl, by have := HI.out; omega, HG2, HB2⟩
        | succ j =>
          obtain rfl : V = (j : Int) := by omega
          have HJ := Lib.hid (show j < M by omega)
          have hjM : (j : Int) < (M : Int) := by omega
          have hj0 : (0 : Int) ≤ (j : Int) := by omega
          clear hV htM
          have c0 := HG2.out.head (Nat.le_refl i) HI.out
          have f0 := HG2.out.bfree (Nat.le_refl i) HI.out j
          obtain ⟨zo, e0⟩ := HG2.out.bsome (Nat.le_refl i) HI.out HJ.out
          have hB3 : w.heap.size ≤ bk2 i := (HG2.out.ne i (Nat.le_refl _) HI.out).1
          have HB3 := Lib.hid hB3
          clear hB3
          by_cases hin : i = n
          · have z1 : (i == n) = true := by simpa using hin
            have z2 : ((i : Int) == (n : Int)) = true := by simp; omega
            have HS := Lib.hid (fun z hz => HG2.out.store HI.out HJ.out (z := z) hz)
            have HZ := Lib.hid (show (m : Int) - (j : Int) = cF A B i j by rw [cF_i (by rw [HAL.out, hin]) (by rw [HBL.out]; have := HM.out; have := HJ.out; omega), HBL.out])
            have hjm : (j : Int) ≤ (m : Int) := by have := HM.out; have := HJ.out; omega
            clear hin
            go_wp2
            go_roundg j
            case measure => have := HGJ.out; omega
            case rel => exact ⟨j, (j : Int) - 1, rfl, rfl, rfl, by have := HJ.out; omega, Lib.hid (HS.out _ HZ.out), Lib.hid (HB2.out.setCell HB3.out _)⟩
          · have z1 : (i == n) = false := by simpa using hin
            have z2 : ((i : Int) == (n : Int)) = false := by simp; omega
            have HIN := Lib.hid (show i < n by have := HI.out; have := HN.out; omega)
            have hinI : (i : Int) + 1 ≤ (n : Int) := by have := HIN.out; omega
            have hinN : (i : Int) + 1 < (N : Int) := by have := HIN.out; have := HN.out; omega
            clear hin
            by_cases hjm : j = m
            · have z3 : (j == m) = true := by simpa using hjm
              have z4 : ((j : Int) == (m : Int)) = true := by simp; omega
              have HS := Lib.hid (fun z hz => HG2.out.store HI.out HJ.out (z := z) hz)
              have HZ := Lib.hid (show (n : Int) - (i : Int) = cF A B i j by rw [cF_j (by rw [HBL.out, hjm]) (by rw [HAL.out]; exact Nat.le_of_lt HIN.out), HAL.out])
              clear hjm
              go_wp2
              go_roundg j
              case measure => have := HGJ.out; omega
              case rel => exact ⟨j, (j : Int) - 1, rfl, rfl, rfl, by have := HJ.out; omega, Lib.hid (HS.out _ HZ.out), Lib.hid (HB2.out.setCell HB3.out _)⟩
            · have z3 : (j == m) = false := by simpa using hjm
              have z4 : ((j : Int) == (m : Int)) = false := by simp; omega
              have HJM := Lib.hid (show j < m by have := HJ.out; have := HM.out; omega)
              have hjmI : (j : Int) + 1 ≤ (m : Int) := by have := HJM.out; omega
              have hjmM : (j : Int) + 1 < (M : Int) := by have := HJM.out; have := HM.out; omega
              clear hjm
              obtain ⟨b1, o1, rfl, x1⟩ := (HA.out.below HB2.out).at_ HIN.out
              obtain ⟨b2, o2, rfl, x2⟩ := (HB.out.below HB2.out).at_ HJM.out
              obtain ⟨p, hp⟩ : ∃ p, A.getD i 0 = p := ⟨_, rfl⟩
              obtain ⟨q, hq⟩ : ∃ q, B.getD j 0 = q := ⟨_, rfl⟩
              rw [hp] at x1
              rw [hq] at x2
              have HS := Lib.hid (fun z hz => HG2.out.store HI.out HJ.out (z := z) hz)
              have hNN : i + 1 < N := by have := HIN.out; have := HN.out; omega
              have c1 := HG2.out.head (Nat.le_succ i) hNN
              have y1 := HG2.out.cell (t := j + 1) (Nat.le_succ i) hNN (by have := HJM.out; have := HM.out; omega) (.inl (Nat.lt_succ_self i))
              have y2 := HG2.out.cell (t := j) (Nat.le_succ i) hNN HJ.out (.inl (Nat.lt_succ_self i))
              have y3 := HG2.out.cell (t := j + 1) (Nat.le_refl i) HI.out (by have := HJM.out; have := HM.out; omega) (.inr (Nat.le_refl _))
              obtain ⟨u1, hu1⟩ : ∃ u, cF A B (i + 1) (j + 1) = u := ⟨_, rfl⟩
              obtain ⟨u2, hu2⟩ : ∃ u, cF A B (i + 1) j = u := ⟨_, rfl⟩
              obtain ⟨u3, hu3⟩ : ∃ u, cF A B i (j + 1) = u := ⟨_, rfl⟩
              have bd2 := cF_bd A B (i + 1) j
              have bd3 := cF_bd A B i (j + 1)
              have EQ := Lib.hid (fun h : p = q => (cF_eq (by rw [HAL.out]; exact HIN.out) (by rw [HBL.out]; exact HJM.out) (by rw [hp, hq]; exact h)).trans hu1)
              have LT := Lib.hid (fun (h : ¬ p = q) (hc : u2 < u3) => (cF_lt (A := A) (B := B) (by rw [HAL.out]; exact HIN.out) (by rw [HBL.out]; exact HJM.out) (by rw [hp, hq]; exact h) (by rw [hu2, hu3]; exact hc)).trans (by rw [hu2]))
              have GE := Lib.hid (fun (h : ¬ p = q) (hc : ¬ u2 < u3) => (cF_ge (A := A) (B := B) (by rw [HAL.out]; exact HIN.out) (by rw [HBL.out]; exact HJM.out) (by rw [hp, hq]; exact h) (by rw [hu2, hu3]; exact hc)).trans (by rw [hu3]))
              rw [HAL.out, HBL.out] at bd2 bd3
              rw [hu1] at y1
              rw [hu2] at y2 bd2
              rw [hu3] at y3 bd3
              have bd20 := bd2.1
              have bd21 := bd2.2
              have bd30 := bd3.1
              have bd31 := bd3.2
              have HU1 := Lib.hid hu1
              have HU2 := Lib.hid hu2
              have HU3 := Lib.hid hu3
              have HNN := Lib.hid hNN
              have HJ1 := Lib.hid (show j + 1 < M by have := HJM.out; have := HM.out; omega)
              clear hp hq hu1 hu2 hu3 hNN bd2 bd3
              by_cases hpq : p = q
              · have z5 : (p == q) = true := by simpa using hpq
                have HZ := Lib.hid (EQ.out hpq)
                clear hpq
                go_wp2_with fail
                go_quiet (fail)
                obtain ⟨w4, hw4⟩ : ∃ W, wr.drewN nq = W := ⟨_, rfl⟩
                have Gw4 := Lib.hid (show Grid w4 w.heap.size w.heap.size N M i (j + 1) bk2 (cF A B) from hw4 ▸ HG2.out.on (below_drewN wr nq))
                have Bw4 := Lib.hid (show Below w.heap.size w w4 from hw4 ▸ HB2.out.trans ((below_drewN wr nq).mono HB2.out.size))
                rw [hw4]
                replace c0 : w4.cell? ⟨w.heap.size, i, none⟩ = some (.slice (some ⟨bk2 i, 0, none⟩) M M) := Gw4.out.head (Nat.le_refl i) HI.out
                replace c1 : w4.cell? ⟨w.heap.size, i + 1, none⟩ = some (.slice (some ⟨bk2 (i + 1), 0, none⟩) M M) := Gw4.out.head (Nat.le_succ i) HNN.out
                replace y1 : w4.cell? ⟨bk2 (i + 1), j + 1, none⟩ = some (.int .i64 u1) := HU1.out ▸ Gw4.out.cell (t := j + 1) (Nat.le_succ i) HNN.out HJ1.out (.inl (Nat.lt_succ_self i))
                replace y2 : w4.cell? ⟨bk2 (i + 1), j, none⟩ = some (.int .i64 u2) := HU2.out ▸ Gw4.out.cell (t := j) (Nat.le_succ i) HNN.out HJ.out (.inl (Nat.lt_succ_self i))
                replace y3 : w4.cell? ⟨bk2 i, j + 1, none⟩ = some (.int .i64 u3) := HU3.out ▸ Gw4.out.cell (t := j + 1) (Nat.le_refl i) HI.out HJ1.out (.inr (Nat.le_refl _))
                replace f0 := Gw4.out.bfree (Nat.le_refl i) HI.out j
                replace e0 := Gw4.out.bsome (Nat.le_refl i) HI.out HJ.out
                obtain ⟨zo, e0⟩ := e0
                clear hw4
                go_wp2
                go_region
                go_wp2
                go_roundg j
                case measure => have := HGJ.out; omega
                case rel => exact ⟨j, (j : Int) - 1, rfl, rfl, rfl, by have := HJ.out; omega, Lib.hid ((Gw4.out.store HI.out HJ.out HZ.out.symm).on ((Below.refl _ _).drew)), Lib.hid ((Bw4.out.setCell HB3.out _).trans (((Below.refl _ _).drew).mono (by have := Bw4.out.size; simp only [World.setCell] at *; simpa using this)))⟩
              · have z5 : (p == q) = false := by simpa using hpq
                by_cases hlt : u2 < u3
                · have z6 : decide (u2 < u3) = true := by simpa using hlt
                  have HZ := Lib.hid (LT.out hpq hlt)
                  clear hpq hlt
                  go_wp2_with fail
                  go_quiet (fail)
                  obtain ⟨w4, hw4⟩ : ∃ W, wr.drewN nq = W := ⟨_, rfl⟩
                  have Gw4 := Lib.hid (show Grid w4 w.heap.size w.heap.size N M i (j + 1) bk2 (cF A B) from hw4 ▸ HG2.out.on (below_drewN wr nq))
                  have Bw4 := Lib.hid (show Below w.heap.size w w4 from hw4 ▸ HB2.out.trans ((below_drewN wr nq).mono HB2.out.size))
                  rw [hw4]
                  replace c0 : w4.cell? ⟨w.heap.size, i, none⟩ = some (.slice (some ⟨bk2 i, 0, none⟩) M M) := Gw4.out.head (Nat.le_refl i) HI.out
                  replace c1 : w4.cell? ⟨w.heap.size, i + 1, none⟩ = some (.slice (some ⟨bk2 (i + 1), 0, none⟩) M M) := Gw4.out.head (Nat.le_succ i) HNN.out
                  replace y1 : w4.cell? ⟨bk2 (i + 1), j + 1, none⟩ = some (.int .i64 u1) := HU1.out ▸ Gw4.out.cell (t := j + 1) (Nat.le_succ i) HNN.out HJ1.out (.inl (Nat.lt_succ_self i))
                  replace y2 : w4.cell? ⟨bk2 (i + 1), j, none⟩ = some (.int .i64 u2) := HU2.out ▸ Gw4.out.cell (t := j) (Nat.le_succ i) HNN.out HJ.out (.inl (Nat.lt_succ_self i))
                  replace y3 : w4.cell? ⟨bk2 i, j + 1, none⟩ = some (.int .i64 u3) := HU3.out ▸ Gw4.out.cell (t := j + 1) (Nat.le_refl i) HI.out HJ1.out (.inr (Nat.le_refl _))
                  replace f0 := Gw4.out.bfree (Nat.le_refl i) HI.out j
                  replace e0 := Gw4.out.bsome (Nat.le_refl i) HI.out HJ.out
                  obtain ⟨zo, e0⟩ := e0
                  clear hw4
                  skip
                  go_wp2_with fail
                  go_quiet (fail)
                  obtain ⟨w5, hw5⟩ : ∃ W, w4.drewN nq = W := ⟨_, rfl⟩
                  have Gw5 := Lib.hid (show Grid w5 w.heap.size w.heap.size N M i (j + 1) bk2 (cF A B) from hw5 ▸ Gw4.out.on (below_drewN w4 nq))
                  have Bw5 := Lib.hid (show Below w.heap.size w w5 from hw5 ▸ Bw4.out.trans ((below_drewN w4 nq).mono Bw4.out.size))
                  rw [hw5]
                  replace c0 : w5.cell? ⟨w.heap.size, i, none⟩ = some (.slice (some ⟨bk2 i, 0, none⟩) M M) := Gw5.out.head (Nat.le_refl i) HI.out
                  replace c1 : w5.cell? ⟨w.heap.size, i + 1, none⟩ = some (.slice (some ⟨bk2 (i + 1), 0, none⟩) M M) := Gw5.out.head (Nat.le_succ i) HNN.out
                  replace y1 : w5.cell? ⟨bk2 (i + 1), j + 1, none⟩ = some (.int .i64 u1) := HU1.out ▸ Gw5.out.cell (t := j + 1) (Nat.le_succ i) HNN.out HJ1.out (.inl (Nat.lt_succ_self i))
                  replace y2 : w5.cell? ⟨bk2 (i + 1), j, none⟩ = some (.int .i64 u2) := HU2.out ▸ Gw5.out.cell (t := j) (Nat.le_succ i) HNN.out HJ.out (.inl (Nat.lt_succ_self i))
                  replace y3 : w5.cell? ⟨bk2 i, j + 1, none⟩ = some (.int .i64 u3) := HU3.out ▸ Gw5.out.cell (t := j + 1) (Nat.le_refl i) HI.out HJ1.out (.inr (Nat.le_refl _))
                  replace f0 := Gw5.out.bfree (Nat.le_refl i) HI.out j
                  replace e0 := Gw5.out.bsome (Nat.le_refl i) HI.out HJ.out
                  obtain ⟨zo, e0⟩ := e0
                  clear hw5
                  go_wp2
                  go_region
                  go_wp2
                  go_roundg j
                  case measure => have := HGJ.out; omega
                  case rel => exact ⟨j, (j : Int) - 1, rfl, rfl, rfl, by have := HJ.out; omega, Lib.hid ((Gw5.out.store HI.out HJ.out HZ.out.symm).on ((Below.refl _ _).drew)), Lib.hid ((Bw5.out.setCell HB3.out _).trans (((Below.refl _ _).drew).mono (by have := Bw5.out.size; simp only [World.setCell] at *; simpa using this)))⟩
                · have z6 : decide (u2 < u3) = false := by simpa using hlt
                  have HZ := Lib.hid (GE.out hpq hlt)
                  clear hpq hlt
                  go_wp2_with fail
                  go_quiet (fail)
                  obtain ⟨w4, hw4⟩ : ∃ W, wr.drewN nq = W := ⟨_, rfl⟩
                  have Gw4 := Lib.hid (show Grid w4 w.heap.size w.heap.size N M i (j + 1) bk2 (cF A B) from hw4 ▸ HG2.out.on (below_drewN wr nq))
                  have Bw4 := Lib.hid (show Below w.heap.size w w4 from hw4 ▸ HB2.out.trans ((below_drewN wr nq).mono HB2.out.size))
                  rw [hw4]
                  replace c0 : w4.cell? ⟨w.heap.size, i, none⟩ = some (.slice (some ⟨bk2 i, 0, none⟩) M M) := Gw4.out.head (Nat.le_refl i) HI.out
                  replace c1 : w4.cell? ⟨w.heap.size, i + 1, none⟩ = some (.slice (some ⟨bk2 (i + 1), 0, none⟩) M M) := Gw4.out.head (Nat.le_succ i) HNN.out
                  replace y1 : w4.cell? ⟨bk2 (i + 1), j + 1, none⟩ = some (.int .i64 u1) := HU1.out ▸ Gw4.out.cell (t := j + 1) (Nat.le_succ i) HNN.out HJ1.out (.inl (Nat.lt_succ_self i))
                  replace y2 : w4.cell? ⟨bk2 (i + 1), j, none⟩ = some (.int .i64 u2) := HU2.out ▸ Gw4.out.cell (t := j) (Nat.le_succ i) HNN.out HJ.out (.inl (Nat.lt_succ_self i))
                  replace y3 : w4.cell? ⟨bk2 i, j + 1, none⟩ = some (.int .i64 u3) := HU3.out ▸ Gw4.out.cell (t := j + 1) (Nat.le_refl i) HI.out HJ1.out (.inr (Nat.le_refl _))
                  replace f0 := Gw4.out.bfree (Nat.le_refl i) HI.out j
                  replace e0 := Gw4.out.bsome (Nat.le_refl i) HI.out HJ.out
                  obtain ⟨zo, e0⟩ := e0
                  clear hw4
                  skip
                  go_wp2_with fail
                  go_quiet (fail)
                  obtain ⟨w5, hw5⟩ : ∃ W, w4.drewN nq = W := ⟨_, rfl⟩
                  have Gw5 := Lib.hid (show Grid w5 w.heap.size w.heap.size N M i (j + 1) bk2 (cF A B) from hw5 ▸ Gw4.out.on (below_drewN w4 nq))
                  have Bw5 := Lib.hid (show Below w.heap.size w w5 from hw5 ▸ Bw4.out.trans ((below_drewN w4 nq).mono Bw4.out.size))
                  rw [hw5]
                  replace c0 : w5.cell? ⟨w.heap.size, i, none⟩ = some (.slice (some ⟨bk2 i, 0, none⟩) M M) := Gw5.out.head (Nat.le_refl i) HI.out
                  replace c1 : w5.cell? ⟨w.heap.size, i + 1, none⟩ = some (.slice (some ⟨bk2 (i + 1), 0, none⟩) M M) := Gw5.out.head (Nat.le_succ i) HNN.out
                  replace y1 : w5.cell? ⟨bk2 (i + 1), j + 1, none⟩ = some (.int .i64 u1) := HU1.out ▸ Gw5.out.cell (t := j + 1) (Nat.le_succ i) HNN.out HJ1.out (.inl (Nat.lt_succ_self i))
                  replace y2 : w5.cell? ⟨bk2 (i + 1), j, none⟩ = some (.int .i64 u2) := HU2.out ▸ Gw5.out.cell (t := j) (Nat.le_succ i) HNN.out HJ.out (.inl (Nat.lt_succ_self i))
                  replace y3 : w5.cell? ⟨bk2 i, j + 1, none⟩ = some (.int .i64 u3) := HU3.out ▸ Gw5.out.cell (t := j + 1) (Nat.le_refl i) HI.out HJ1.out (.inr (Nat.le_refl _))
                  replace f0 := Gw5.out.bfree (Nat.le_refl i) HI.out j
                  replace e0 := Gw5.out.bsome (Nat.le_refl i) HI.out HJ.out
                  obtain ⟨zo, e0⟩ := e0
                  clear hw5
                  go_wp2
                  go_region
                  go_wp2
                  go_roundg j
                  case measure => have := HGJ.out; omega
                  case rel => exact ⟨j, (j : Int) - 1, rfl, rfl, rfl, by have := HJ.out; omega, Lib.hid ((Gw5.out.store HI.out HJ.out HZ.out.symm).on ((Below.refl _ _).drew)), Lib.hid ((Bw5.out.setCell HB3.out _).trans (((Below.refl _ _).drew).mono (by have := Bw5.out.size; simp only [World.setCell] at *; simpa using this)))⟩
#print axioms costs_any
end Go.Proofs.YtfoalaoanpbmeaaDoor
