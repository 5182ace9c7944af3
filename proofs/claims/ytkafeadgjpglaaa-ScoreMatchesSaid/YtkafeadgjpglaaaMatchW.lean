/-
  The walk of Match.
-/
import Derived.Test.YtkafeadgjpglaaaMatch
import Derived.Deep.RegionHeld
namespace Go.Proofs.Ytkafeadgjpglaaa
open Go.RowKit

/-- What a call answers: pairs. -/
def Pairs1 (T : List (Nat × Nat)) (w : World) (e : Ending) (w' : World) : Prop := ∃ a1 n1 c1, e = .returned (.slice a1 n1 c1) ∧ At2 w' a1 n1 c1 T ∧ Below w.heap.size w w'

/-- The pairs and the numbers, as far as they go. -/
structure Two2 (W : World) (base : Nat) (v5 v6 : Value) (C : List ((Nat × Nat) × Nat)) : Prop where
  ps : Own2 W base v5 (C.map Prod.fst)
  vs : Own1 F 23 W base v6 (C.map Prod.snd)
  ap : Apart v5 v6
theorem Two2.below {W W' : World} {base : Nat} {v5 v6 : Value} {C : List ((Nat × Nat) × Nat)} (h : Two2 W base v5 v6 C) (hb : Below W.heap.size W W') : Two2 W' base v5 v6 C := ⟨h.ps.below hb, h.vs.below hb, h.ap⟩

theorem exec_step {P : Program} {w w' : World} {ops : Array Oper} {o : Oper} {a : Act} {K : Act → World → Prop} {Q : Exit → Act → World → Prop} {v : Value} (hr : (execOp a.eval o).run P w = .ok (.value v) w') (h : K (a.put o.dst v) w') (hgd : o.guard = none := by rfl) :
    if Region.wanted o (yielded ops a.tmps) = true then o.wp P a w K Q else K (a.put o.dst undef) w := by
  rw [if_pos (by unfold Region.wanted; rw [hgd])]
  unfold Oper.wp
  rw [hr]
  exact h

/-- 'make([]bool, n)'. -/
theorem exec_bools {w : World} {o : Oper} {a : Act} (x : Operand) (ho : o.op = Op.makeSlice 93 x x) (n : Nat) (hx : a.eval x = .int .i64 (n : Int)) (hn : n ≤ 1000000) :
    ∃ w', (execOp a.eval o).run Try.prog w = .ok (.value (.slice (some ⟨w.heap.size, 0, none⟩) n n)) w' ∧ Own1 BL 4 w' w.heap.size (.slice (some ⟨w.heap.size, 0, none⟩) n n) (List.replicate n 0) ∧ w.grownBy w' none ∧ w.heap.size < w'.heap.size := by
  obtain ⟨i0, hi, hz0, hz1, hz2⟩ := info_parts infoB
  obtain ⟨w', hr, h1, h2⟩ := run_make_full (P := Try.prog) w w.heap.size 93 4 i0 (BL 0) 1 Try.underlying93 hi hz0 hz1 .i64 .i64 n (by rw [hz2]; omega) (by unfold maxLen; omega) (Nat.le_refl _)
  have ho1 : Own1 BL 4 w' w.heap.size (.slice (some ⟨w.heap.size, 0, none⟩) n n) (List.replicate n 0) := by
    unfold Own1
    rw [List.length_replicate, List.map_replicate]
    have e : (madeCells (BL 0).cells (n * 1)).toList = List.replicate n (BL 0) := by
      apply List.ext_getElem
      · simp [madeCells]
      · intro i h3 h4
        have e2 : (BL 0).cells = #[BL 0] := rfl
        simp [madeCells, e2, Nat.mod_one]
    rw [← e]
    exact h1
  refine ⟨w', ?_, ho1, h2, ?_⟩
  · unfold execOp
    simp only [ho, hx, Sem.run_bind, hr, Result.andThen_ok, Sem.run_pure]
  · rcases h1.2 with ⟨hv, _⟩ | ⟨g, cap, cur, hv, _, hg, _⟩
    · cases hv
    · simp only [Value.slice.injEq, Option.some.injEq, Addr.mk.injEq, and_true] at hv
      obtain ⟨rfl, _⟩ := hv
      rcases Nat.lt_or_ge w.heap.size w'.heap.size with h | h
      · exact h
      · rw [Array.getElem?_eq_none h] at hg; cases hg

theorem step_bools {w : World} {ops : Array Oper} {o : Oper} {a : Act} {K : Act → World → Prop} {Q : Exit → Act → World → Prop} (x : Operand) (n : Nat) (hn : n ≤ 1000000)
    (h : ∀ g w', g = w.heap.size → Own1 BL 4 w' g (.slice (some ⟨g, 0, none⟩) n n) (List.replicate n 0) → w.grownBy w' none → g < w'.heap.size → K (a.put o.dst (.slice (some ⟨g, 0, none⟩) n n)) w')
    (hgd : o.guard = none := by rfl) (ho : o.op = Op.makeSlice 93 x x := by rfl) (hx : a.eval x = .int .i64 (n : Int) := by rfl) :
    if Region.wanted o (yielded ops a.tmps) = true then o.wp Try.prog a w K Q else K (a.put o.dst undef) w := by
  obtain ⟨w', hr, h1, h2, h3⟩ := exec_bools (w := w) x ho n hx hn
  exact exec_step hr (h _ w' rfl h1 h2 h3) hgd

/-- All but two blocks stand. -/
structure Fr (w0 : World) (g h : Nat) (W : World) : Prop where
  os : W.os = w0.os
  tape : W.tape = w0.tape
  output : W.output = w0.output
  size : w0.heap.size ≤ W.heap.size
  block : ∀ k, k < w0.heap.size → k ≠ g → k ≠ h → W.heap[k]? = w0.heap[k]?
theorem Fr.refl (w : World) (g h : Nat) : Fr w g h w := ⟨rfl, rfl, rfl, Nat.le_refl _, fun _ _ _ _ => rfl⟩
theorem Fr.below {w0 W W' : World} {g h : Nat} (k : Fr w0 g h W) (hb : Below W.heap.size W W') : Fr w0 g h W' :=
  ⟨hb.os.trans k.os, hb.tape.trans k.tape, hb.output.trans k.output, Nat.le_trans k.size hb.size, fun j h1 h2 h3 => (hb.block j (Nat.lt_of_lt_of_le h1 k.size)).trans (k.block j h1 h2 h3)⟩
theorem Fr.grown {w0 W W' : World} {g h : Nat} {row : Option Nat} (k : Fr w0 g h W) (hg : W.grownBy W' row) (hr : ∀ j, row = some j → w0.heap.size ≤ j) : Fr w0 g h W' :=
  ⟨hg.os.trans k.os, hg.tape.trans k.tape, hg.output.trans k.output, Nat.le_trans k.size hg.size, fun j h1 h2 h3 => (hg.block j (Nat.lt_of_lt_of_le h1 k.size) (fun e => by have := hr j e.symm; omega)).trans (k.block j h1 h2 h3)⟩
theorem Fr.set {w0 W : World} {g h : Nat} (k : Fr w0 g h W) (b o : Nat) (v : Value) (hb : b = g ∨ b = h) : Fr w0 g h (W.setCell ⟨b, o, none⟩ v) :=
  ⟨k.os, k.tape, k.output, by have := k.size; simpa [World.setCell] using this, fun j h1 h2 h3 => (Below.heap_setCell _ _ _ _ (by simp only; omega)).trans (k.block j h1 h2 h3)⟩
theorem Fr.cell {w0 W : World} {g h b o : Nat} {v : Value} (k : Fr w0 g h W) (hc : w0.cell? ⟨b, o, none⟩ = some v) (h1 : b ≠ g) (h2 : b ≠ h) : W.cell? ⟨b, o, none⟩ = some v := by
  rw [World.cell?_of_block (a := ⟨b, o, none⟩) (k.block b (World.block_lt_of_cell? _ _ hc) h1 h2)]; exact hc
theorem Fr.toBelow {w w0 W : World} {g h base : Nat} (k : Fr w0 g h W) (hb : Below base w w0) (h1 : base ≤ g) (h2 : base ≤ h) (hs : base ≤ w0.heap.size) : Below base w W :=
  ⟨k.os.trans hb.os, k.tape.trans hb.tape, k.output.trans hb.output, Nat.le_trans hb.size k.size, fun j hj => (k.block j (by omega) (by omega) (by omega)).trans (hb.block j hj)⟩
theorem Own1.other {mk : Nat → Value} {E : TypeId} {w : World} {base : Nat} {v : Value} {L : List Nat} (h : Own1 mk E w base v L) (b o : Nat) (u : Value) (hne : ∀ k, v.ownBlock = some k → k ≠ b) : Own1 mk E (w.setCell ⟨b, o, none⟩ u) base v L := by
  refine h.kept (row := some b) ⟨rfl, rfl, rfl, by simp [World.setCell], fun k hk hn => Below.heap_setCell _ _ _ _ (fun e => hn (by simp only at e; rw [e]))⟩ ?_
  cases hv : v.ownBlock with
  | none => exact .inl rfl
  | some k => exact .inr (fun e => by cases e; exact hne b hv rfl)
theorem Own2.other {w : World} {base : Nat} {v : Value} {L : List (Nat × Nat)} (h : Own2 w base v L) (b o : Nat) (u : Value) (hne : ∀ k, v.ownBlock = some k → k ≠ b) : Own2 (w.setCell ⟨b, o, none⟩ u) base v L := by
  refine h.kept (row := some b) ⟨rfl, rfl, rfl, by simp [World.setCell], fun k hk hn => Below.heap_setCell _ _ _ _ (fun e => hn (by simp only at e; rw [e]))⟩ ?_
  cases hv : v.ownBlock with
  | none => exact .inl rfl
  | some k => exact .inr (fun e => by cases e; exact hne b hv rfl)
theorem pair_src (W : World) (pr : Nat × Nat) : (W.alloc (.cells #[N pr.1, N pr.2] 48)).rangeAt W.heap.size 0 (pc pr) := fun k u hu => by
  match k with
  | 0 => simp only [pc, List.getElem?_cons_zero, Option.some.injEq] at hu; subst hu; simp
  | 1 => simp only [pc, List.getElem?_cons_succ, List.getElem?_cons_zero, Option.some.injEq] at hu; subst hu; simp
  | k + 2 => simp [pc] at hu

theorem w64_cands {least : Nat} {M : List (List Nat)} (h : ∀ r, W64 (M.getD r [])) (i : Nat) : W64 ((candM least M i).map Prod.snd) := fun k => by
  rcases Nat.lt_or_ge k ((candM least M i).map Prod.snd).length with h1 | h1
  · have hm : ((candM least M i).map Prod.snd).getD k 0 ∈ (candM least M i).map Prod.snd := by
      rw [List.getD_eq_getElem?_getD, List.getElem?_eq_getElem h1]; exact List.getElem_mem h1
    obtain ⟨p, hp, he⟩ := List.mem_map.1 hm
    rw [← he, (mem_candM hp).2.2.1]
    exact h _ _
  · rw [List.getD_eq_getElem?_getD, List.getElem?_eq_none h1]; simp
theorem pair_lt {least : Nat} {M : List (List Nat)} {i k : Nat} (h : k < (candM least M i).length) : (((candM least M i).map Prod.fst).getD k (0, 0)).1 < i ∧ (((candM least M i).map Prod.fst).getD k (0, 0)).2 < (M.getD (((candM least M i).map Prod.fst).getD k (0, 0)).1 []).length := by
  have h1 : k < ((candM least M i).map Prod.fst).length := by simpa using h
  have hm : ((candM least M i).map Prod.fst).getD k (0, 0) ∈ (candM least M i).map Prod.fst := by
    rw [List.getD_eq_getElem?_getD, List.getElem?_eq_getElem h1]; exact List.getElem_mem h1
  obtain ⟨p, hp, he⟩ := List.mem_map.1 hm
  rw [← he]
  exact ⟨(mem_candM hp).1, (mem_candM hp).2.1⟩

theorem Two2.next {W W1 W2 W3 : World} {base : Nat} {v5 v6 v5' v6' : Value} {C : List ((Nat × Nat) × Nat)} {p : Nat × Nat} {x : Nat} {o1 o2 : Obj} (h : Two2 W base v5 v6 C)
    (h1 : Own2 W1 base v5' (C.map Prod.fst ++ [p])) (t1 : Told (W.alloc o1) v5 v5') (e2 : W2 = W1.alloc o2)
    (h2 : Own1 F 23 W3 base v6' (C.map Prod.snd ++ [x])) (g2 : W2.grownBy W3 v6.ownBlock) (t2 : Told W2 v6 v6') : Two2 W3 base v5' v6' (C ++ [(p, x)]) := by
  subst e2
  have a1 : Apart v6 v5' := (h.ap.symm).told t1 (fun k hk => ((h.vs.alloc o1).lt k hk).2)
  have k1 : Own2 (W1.alloc o2) base v5' (C.map Prod.fst ++ [p]) := h1.alloc o2
  have a2 : Apart v5' v6' := (a1.symm).told t2 (fun k hk => (k1.lt k hk).2)
  refine ⟨?_, ?_, a2⟩
  · rw [List.map_append]; exact k1.kept g2 (a1.symm).kept
  · rw [List.map_append]; exact h2

set_option maxRecDepth 100000 in
set_option maxHeartbeats 8000000 in
theorem match_any (a : Option Addr) (n c : Nat) (M : List (List Nat)) (least : Nat) (w : World) (hM : MatAt w a n c M) (h64 : ∀ r, W64 (M.getD r [])) (hl : least < 18446744073709551616) (hn : n ≤ 1000) (hm : ∀ r, (M.getD r []).length ≤ 1000) :
    Calls Try.prog 32 #[.slice a n c, .float .f64 least] w (Pairs1 (matchF least M) w) := by
  have HM := Lib.hid hM
  have H64 := Lib.hid h64
  have HLS := Lib.hid hl
  have HMM := Lib.hid hm
  have HLN := Lib.hid hM.1
  have hnI : (n : Int) ≤ 1000 := by omega
  have hn0 : (0 : Int) ≤ (n : Int) := by omega
  have HN := Lib.hid hn
  have H0 := Lib.hid (show Two2 w w.heap.size (.slice none 0 0) (.slice none 0 0) (candM least M 0) from ⟨Own2.nil, Own1.nil, fun k hk => by cases hk⟩)
  clear hM h64 hl hn hm
  go_enter Try.func32, Try.ntmps32
  go_wp2
  go_loopg [5, 6, 7, 21] n (fun g v5 v6 v7 v21 W => ∃ (i q cols : Nat) (a5 : Option Addr) (c5 : Nat) (a6 : Option Addr) (c6 : Nat), v5 = .slice a5 q c5 ∧ v6 = .slice a6 q c6 ∧ v7 = .int .i64 cols ∧ v21 = .int .i64 i ∧ g + i = n ∧ Below w.heap.size w W ∧ Hid (Two2 W w.heap.size (.slice a5 q c5) (.slice a6 q c6) (candM least M i)) ∧ Hid ((candM least M i).length = q) ∧ Hid ((∀ r, r < i → (M.getD r []).length ≤ cols) ∧ cols ≤ 1000))
  case atStart => exact ⟨0, 0, 0, none, 0, none, 0, rfl, rfl, rfl, rfl, rfl, Below.refl _ _, H0, Lib.hid rfl, Lib.hid ⟨fun r hr => by omega, by omega⟩⟩
  case round =>
    clear H0
    obtain ⟨i, q, cols, a5, c5, a6, c6, rfl, rfl, rfl, rfl, hg, hbw, HT, HQ, HC⟩ := hrel
    obtain ⟨wo, rfl⟩ : ∃ wo : World, wo = wr := ⟨_, rfl⟩
    have HG := Lib.hid hg
    have hi0 : (0 : Int) ≤ (i : Int) := by omega
    have hiI : (i : Int) ≤ (n : Int) := by omega
    have HBI := Lib.hid hbw
    by_cases hi : (i : Int) < (n : Int)
    · obtain ⟨bm, om, rfl⟩ := HM.out.some_ (by omega)
      have HIN := Lib.hid (show i < n by omega)
      obtain ⟨a1, c1, hc0, hat⟩ := HM.out.row i HIN.out
      obtain ⟨l, hl⟩ : ∃ l, l = M.getD i [] := ⟨_, rfl⟩
      obtain ⟨m, hm⟩ : ∃ m, m = l.length := ⟨_, rfl⟩
      have HLE := Lib.hid hl
      have HME := Lib.hid hm
      rw [← hl, ← hm] at hc0 hat
      have HAT := Lib.hid hat
      have hcell := (hbw.cell (p := ⟨bm, om + i, none⟩) (World.block_lt_of_cell? _ _ hc0)).trans hc0
      have HMB := Lib.hid (show m ≤ 1000 by rw [hm, hl]; exact HMM.out i)
      have hmI : (m : Int) ≤ 1000 := by have := HMB.out; omega
      have hm0 : (0 : Int) ≤ (m : Int) := by omega
      obtain ⟨cm, hcm⟩ : ∃ cm : Nat, (cm : Int) = if (cols : Int) < (m : Int) then (m : Int) else (cols : Int) := by
        by_cases h : (cols : Int) < (m : Int)
        · exact ⟨m, by rw [if_pos h]⟩
        · exact ⟨cols, by rw [if_neg h]⟩
      have HCM := Lib.hid hcm
      have HC2 := Lib.hid (show (∀ r, r < i + 1 → (M.getD r []).length ≤ cm) ∧ cm ≤ 1000 by
        have h1 := HC.out
        have h2 := HMB.out
        have h3 : cols ≤ cm ∧ m ≤ cm ∧ cm ≤ 1000 := by split at hcm <;> omega
        refine ⟨fun r hr => ?_, h3.2.2⟩
        rcases Nat.lt_or_ge r i with h4 | h4
        · have := h1.1 r h4; omega
        · obtain rfl : r = i := by omega
          rw [← HLE.out, ← HME.out]; exact h3.2.1)
      have HI0 := Lib.hid (show Two2 wo w.heap.size (.slice a5 q c5) (.slice a6 q c6) (candM least M i ++ candRow least i l 0) by have h := HT.out; have e : candRow least i l 0 = [] := rfl; rw [e, List.append_nil]; exact h)
      have HQ0 := Lib.hid (show (candM least M i ++ candRow least i l 0).length = q by have e : candRow least i l 0 = [] := rfl; rw [e, List.append_nil]; exact HQ.out)
      clear hg hl hm hat hcm hbw HT HQ hc0
      go_wp2_with (refine wl_max rfl _ _ _ rfl (cols : Int) (m : Int) (cm : Int) rfl rfl HCM.out ?_)
      go_loopg [5, 6, 32] m (fun g v5 v6 v32 W => ∃ (j q : Nat) (a5 : Option Addr) (c5 : Nat) (a6 : Option Addr) (c6 : Nat), v5 = .slice a5 q c5 ∧ v6 = .slice a6 q c6 ∧ v32 = .int .i64 j ∧ g + j = m ∧ Below w.heap.size w W ∧ Hid (Two2 W w.heap.size (.slice a5 q c5) (.slice a6 q c6) (candM least M i ++ candRow least i l j)) ∧ Hid ((candM least M i ++ candRow least i l j).length = q))
      case atStart => exact ⟨0, q, a5, c5, a6, c6, rfl, rfl, rfl, rfl, HBI.out, HI0, HQ0⟩
      case round =>
        clear HI0 HQ0 hcell HBI
        obtain ⟨j, q, a5, c5, a6, c6, rfl, rfl, rfl, hg, hbw, HT, HQ⟩ := hrel
        have HG2 := Lib.hid hg
        have hj0 : (0 : Int) ≤ (j : Int) := by omega
        have hjI : (j : Int) ≤ (m : Int) := by omega
        have HBW := Lib.hid hbw
        by_cases hj : (j : Int) < (m : Int)
        · have HJN := Lib.hid (show j < m by omega)
          obtain ⟨bl, ol, rfl⟩ := HAT.out.some_ (by omega)
          obtain ⟨x, hx⟩ : ∃ x, x = l.getD j 0 := ⟨_, rfl⟩
          have HXE := Lib.hid hx
          have hcx : wr.cell? ⟨bl, ol + j, none⟩ = some (.float .f64 x) := by rw [hx]; exact (HAT.out.below hbw).cell j HJN.out
          have HX := Lib.hid (show x < 18446744073709551616 by rw [hx, HLE.out]; exact H64.out i j)
          obtain ⟨b, hb⟩ : ∃ b, b = nanB x := ⟨_, rfl⟩
          obtain ⟨z, hz⟩ : ∃ z, z = ordF x least := ⟨_, rfl⟩
          have HNA := fun W => Lib.hid (isNaN_is x b W hb)
          have HOR := fun W => Lib.hid (order_is x least z W HX.out HLS.out hz)
          have HOK := Lib.hid (show okB least x = (!b && decide (0 ≤ z)) by rw [hb, hz]; rfl)
          have HCN := Lib.hid (show candRow least i l (j + 1) = candRow least i l j ++ (if okB least x then [((i, j), x)] else []) by rw [hx]; exact candRow_next least i l j)
          have HQB := Lib.hid (show q ≤ 1000 * 1000 + 1000 by
            have h1 := HQ.out
            have h2 := candM_length least M 1000 HMM.out i
            have h3 := candRow_length least i l j
            have h4 : i * 1000 ≤ 1000 * 1000 := Nat.mul_le_mul_right _ (by have := HIN.out; have := HN.out; omega)
            rw [List.length_append] at h1
            have := HJN.out; have := HMB.out
            omega)
          clear hx hb hz hg
          rcases b with _ | _
          · by_cases hz0 : 0 ≤ z
            · have HNX := Lib.hid (show candM least M i ++ candRow least i l (j + 1) = (candM least M i ++ candRow least i l j) ++ [((i, j), x)] by
                rw [HCN.out, HOK.out, decide_eq_true hz0, List.append_assoc]; rfl)
              obtain ⟨C, hC⟩ : ∃ C, C = candM least M i ++ candRow least i l j := ⟨_, rfl⟩
              have HCE := Lib.hid hC
              rw [← hC] at HT HQ HNX
              have HPL := Lib.hid (show q + 1 = (C.map Prod.fst).length + 1 by rw [List.length_map, HQ.out])
              have HVL := Lib.hid (show q + 1 = (C.map Prod.snd).length + 1 by rw [List.length_map, HQ.out])
              have HP48 := Lib.hid (show (C.map Prod.fst).length + 1 ≤ 1000000000000 by rw [← HPL.out]; have := HQB.out; omega)
              have HV48 := Lib.hid (show ((C.map Prod.snd).length + 1) * (8 + 1) ≤ 140737488355328 by rw [← HVL.out]; have := HQB.out; omega)
              have HBS := Lib.hid hbw.size
              have HOP := Lib.hid (HT.out.ps.alloc (.cells #[N i, N j] 48))
              have HSRC := Lib.hid (show (wr.alloc (.cells #[N i, N j] 48)).rangeAt wr.heap.size 0 (pc (i, j)) from fun k u hu => by
                match k with
                | 0 => simp only [pc, List.getElem?_cons_zero, Option.some.injEq] at hu; subst hu; simp
                | 1 => simp only [pc, List.getElem?_cons_succ, List.getElem?_cons_zero, Option.some.injEq] at hu; subst hu; simp
                | k + 2 => simp [pc] at hu)
              have HZ1 := Lib.hid (show w.heap.size ≤ (wr.alloc (.cells #[N i, N j] 48)).heap.size by have := HBS.out; simp; omega)
              clear hC hbw
              go_wp2_with (first
                | (go_at_call 35; (with_reducible refine (HNA _).out.mono ?_); rintro e w9 ⟨rfl, rfl⟩)
                | (go_at_call 21; (with_reducible refine (HOR _).out.mono ?_); rintro e w9 ⟨rfl, rfl⟩)
                | ((with_reducible show wpList _ _ _ (⟨some 50, _, _, _, _, _⟩ :: _) _ _); refine wl_pair1 rfl _ rfl (i, j) rfl ?_)
                | ((with_reducible show wpList _ _ _ (⟨some 51, _, _, _, _, _⟩ :: _) _ _); go_must (refine app2_told rfl (.tmp 46) (.tmp 50) rfl w.heap.size _ (C.map Prod.fst) rfl HOP.out wr.heap.size (i, j) rfl HSRC.out HP48.out HZ1.out (q + 1) HPL.out ?_); intro a7 c7 w7 hown7 hgr7 htd7; have HO7 := Lib.hid hown7; have HG7 := Lib.hid hgr7; have HD7 := Lib.hid htd7; have HV7 := Lib.hid (((HT.out.vs.alloc (.cells #[N i, N j] 48)).kept hgr7 HT.out.ap.symm.kept).alloc (.cells #[.float .f64 x] 23)); have HZ7 := Lib.hid (show w.heap.size ≤ (w7.alloc (.cells #[.float .f64 x] 23)).heap.size by have := HZ1.out; have := hgr7.size; simp at *; omega); have HC7 := Lib.hid (show (w7.alloc (.cells #[.float .f64 x] 23)).cell? ⟨w7.heap.size, 0, none⟩ = some (F x) by simp); clear hown7 hgr7 htd7)
                | ((with_reducible show wpList _ _ _ (⟨some 55, _, _, _, _, _⟩ :: _) _ _); go_must (refine app1_told F (fun _ => rfl) Try.underlying29 infoF rfl rfl (.tmp 52) (.tmp 54) rfl w.heap.size _ (C.map Prod.snd) rfl HV7.out w7.heap.size x rfl HC7.out HV48.out HZ7.out (q + 1) HVL.out ?_); intro a8 c8 w8 hown8 hgr8 htd8; have HO8 := Lib.hid hown8; have HG8 := Lib.hid hgr8; have HD8 := Lib.hid htd8; clear hown8 hgr8 htd8))
              have HTN := Lib.hid (HT.out.next HO7.out HD7.out rfl HO8.out HG8.out HD8.out)
              have HB7 := Lib.hid ((HBW.out.alloc HBS.out (.cells #[N i, N j] 48)).grown HG7.out HZ1.out (fun k hk => (HOP.out.lt k hk).1))
              have HB8 := Lib.hid ((HB7.out.alloc HB7.out.size (.cells #[.float .f64 x] 23)).grown HG8.out HZ7.out (fun k hk => (HV7.out.lt k hk).1))
              have HQN := Lib.hid (show (C ++ [((i, j), x)]).length = q + 1 by rw [List.length_append, HQ.out]; rfl)
              go_roundg (m - (j + 1))
              case measure => have := HG2.out; have := HJN.out; omega
              case rel => exact ⟨j + 1, q + 1, a7, c7, a8, c8, rfl, rfl, by go_num, by have := HJN.out; omega, HB8.out, by rw [HNX.out]; exact HTN, by rw [HNX.out]; exact HQN⟩
            · have HNX := Lib.hid (show candM least M i ++ candRow least i l (j + 1) = candM least M i ++ candRow least i l j by
                rw [HCN.out, HOK.out, decide_eq_false hz0, Bool.and_false]; simp)
              have hzf : decide (0 ≤ z) = false := decide_eq_false hz0
              clear hz0
              go_wp2_with (first
                | (go_at_call 35; (with_reducible refine (HNA _).out.mono ?_); rintro e w9 ⟨rfl, rfl⟩)
                | (go_at_call 21; (with_reducible refine (HOR _).out.mono ?_); rintro e w9 ⟨rfl, rfl⟩))
              go_roundg (m - (j + 1))
              case measure => have := HG2.out; have := HJN.out; omega
              case rel => exact ⟨j + 1, q, a5, c5, a6, c6, rfl, rfl, by go_num, by have := HJN.out; omega, hbw, by rw [HNX.out]; exact HT, by rw [HNX.out]; exact HQ⟩
          · have HNX := Lib.hid (show candM least M i ++ candRow least i l (j + 1) = candM least M i ++ candRow least i l j by
              rw [HCN.out, HOK.out, Bool.not_true, Bool.false_and]; simp)
            go_wp2_with (first
              | (go_at_call 35; (with_reducible refine (HNA _).out.mono ?_); rintro e w9 ⟨rfl, rfl⟩)
              | (go_at_call 21; (with_reducible refine (HOR _).out.mono ?_); rintro e w9 ⟨rfl, rfl⟩))
            go_roundg (m - (j + 1))
            case measure => have := HG2.out; have := HJN.out; omega
            case rel => exact ⟨j + 1, q, a5, c5, a6, c6, rfl, rfl, by go_num, by have := HJN.out; omega, hbw, by rw [HNX.out]; exact HT, by rw [HNX.out]; exact HQ⟩
        · have HNX := Lib.hid (show candM least M (i + 1) = candM least M i ++ candRow least i l j by
            rw [candM_next, ← HLE.out, ← HME.out, show j = m from by omega])
          clear hg
          go_wp2
          go_roundg (n - (i + 1))
          case measure => have := HG.out; have := HIN.out; omega
          case rel => exact ⟨i + 1, q, cm, a5, c5, a6, c6, rfl, rfl, rfl, by go_num, by have := HIN.out; omega, hbw, by rw [HNX.out]; exact HT, by rw [HNX.out]; exact HQ, HC2⟩
    · obtain rfl : i = n := by omega
      obtain ⟨C, hC⟩ : ∃ C, C = candM least M i := ⟨_, rfl⟩
      have HCE := Lib.hid hC
      rw [← hC] at HT HQ
      have HPL := Lib.hid (show ∀ k, k < q → ((C.map Prod.fst).getD k (0, 0)).1 < i ∧ ((C.map Prod.fst).getD k (0, 0)).2 < cols by
        intro k hk
        have h := pair_lt (least := least) (M := M) (i := i) (k := k) (by rw [← HCE.out, HQ.out]; exact hk)
        rw [← HCE.out] at h
        exact ⟨h.1, Nat.lt_of_lt_of_le h.2 (HC.out.1 _ h.1)⟩)
      have HV64 := Lib.hid (show W64 (C.map Prod.snd) by rw [hC]; exact w64_cands H64.out i)
      have HQB := Lib.hid (show q ≤ 1000 * 1000 by
        have h1 := HQ.out
        have h2 := candM_length least M 1000 HMM.out i
        have h4 : i * 1000 ≤ 1000 * 1000 := Nat.mul_le_mul_right _ HN.out
        rw [← HCE.out] at h2
        omega)
      have HRL := Lib.hid (show (rankS (C.map Prod.snd)).length = q by rw [rankS_length, List.length_map, HQ.out])
      have HRK := Lib.hid (rankS_ranked HV64.out)
      have HRI := Lib.hid (show ∀ k, k < q → (rankS (C.map Prod.snd)).getD k 0 < q by
        intro k hk
        have hm : (rankS (C.map Prod.snd)).getD k 0 ∈ rankS (C.map Prod.snd) := by
          rw [List.getD_eq_getElem?_getD, List.getElem?_eq_getElem (by rw [HRL.out]; exact hk)]; exact List.getElem_mem _
        have := HRK.out.lt hm
        rwa [List.length_map, HQ.out] at this)
      have HMF := Lib.hid (show matchF least M = greedyF (C.map Prod.fst) (rankS (C.map Prod.snd)) by unfold matchF; rw [HLN.out, ← HCE.out])
      have HPLT := Lib.hid (show ∀ k, (Value.slice a5 q c5).ownBlock = some k → k < wo.heap.size from fun k hk => (HT.out.ps.lt k hk).2)
      have hcI : (cols : Int) ≤ 1000 := by have := HC.out.2; omega
      have hc0 : (0 : Int) ≤ (cols : Int) := by omega
      have HCB := Lib.hid (show cols ≤ 1000000 by have := HC.out.2; omega)
      have HNB := Lib.hid (show i ≤ 1000000 by have := HN.out; omega)
      have HBO := Lib.hid hbw
      clear hg hC hbw
      go_wp2
      have hS : Below wo.heap.size wo wo.drew := (Below.refl _ _).drew
      refine wp_region_held_drew (S := fun W => Below wo.heap.size wo W) (by kernel_rfl) hS (fun hHeld => ?_)
      refine wpAnyH_take (i := 0) (oi := ⟨some 58, .move (.tmp 0), _, _, _, _⟩) (v := (.slice a i c)) rfl (by kernel_rfl) (by kernel_rfl) (by kernel_rfl) (fun _ _ _ h => h) (Or.inl ⟨by rfl, fun W hW => by go_simp⟩) (by assumption) ?_
      simp only [Act.put, List.setIfInBounds_toArray, List.set_cons_zero, List.set_cons_succ]
      refine wpAnyH_take (i := 1) (oi := ⟨some 59, .call { callee := .builtin .len, args := #[.tmp 58], argTypes := #[39] }, _, _, _, _⟩) (v := (.int .i64 (i : Int))) rfl (by kernel_rfl) (by kernel_rfl) (by kernel_rfl) (fun _ _ _ h => h) (Or.inl ⟨by rfl, fun W hW => by go_simp⟩) (by assumption) ?_
      simp only [Act.put, List.setIfInBounds_toArray, List.set_cons_zero, List.set_cons_succ]
      refine wpAnyH_take (i := 3) (oi := ⟨some 61, .move (.tmp 7), _, _, _, _⟩) (v := (.int .i64 (cols : Int))) rfl (by kernel_rfl) (by kernel_rfl) (by kernel_rfl) (fun _ _ _ h => h) (Or.inl ⟨by rfl, fun W hW => by go_simp⟩) (by assumption) ?_
      simp only [Act.put, List.setIfInBounds_toArray, List.set_cons_zero, List.set_cons_succ]
      refine wpAnyH_ready (rs := [2, 4]) (by kernel_rfl) (by simp) ?_
      refine AllReadyH.cons (o := ⟨some 60, .makeSlice 93 (.tmp 59) (.tmp 59), _, _, _, _⟩) rfl (fun K hK => ?_) (AllReadyH.cons (o := ⟨some 62, .makeSlice 93 (.tmp 61) (.tmp 61), _, _, _, _⟩) rfl (fun K hK => ?_) AllReadyH.nil)
      · refine step_bools (.tmp 59) i HNB.out ?_
        intro g12 w1 he1 ho1 hg1 hlt1
        have HE1 := Lib.hid (show wo.heap.size = g12 from he1.symm)
        have HO1 := Lib.hid ho1
        have HLT1 := Lib.hid hlt1
        have hS1 : Below wo.heap.size wo w1 := hS.grown hg1 hS.size (fun k hk => by cases hk)
        clear he1 ho1 hg1 hlt1
        refine hK.out _ _ hS1 (fun hHeld => ?_)
        clear hK K
        simp only [Act.put, List.setIfInBounds_toArray, List.set_cons_zero, List.set_cons_succ]
        refine wpAnyH_take (i := 5) (oi := ⟨some 12, .assign (.tmp 60), _, _, _, _⟩) (v := (.slice (some ⟨g12, 0, none⟩) i i)) rfl (by kernel_rfl) (by kernel_rfl) (by kernel_rfl) (fun _ _ _ h => h) (Or.inl ⟨by rfl, fun W hW => by go_simp⟩) (by assumption) ?_
        simp only [Act.put, List.setIfInBounds_toArray, List.set_cons_zero, List.set_cons_succ]
        refine wpAnyH_ready (rs := [4]) (by kernel_rfl) (by simp) ?_
        refine AllReadyH.cons (o := ⟨some 62, .makeSlice 93 (.tmp 61) (.tmp 61), _, _, _, _⟩) rfl (fun K hK => ?_) AllReadyH.nil
        refine step_bools (.tmp 61) cols HCB.out ?_
        intro g13 w2 he2 ho2 hg2 hlt2
        have HE2 := Lib.hid (show w1.heap.size = g13 from he2.symm)
        have HO2 := Lib.hid ho2
        have HLT2 := Lib.hid hlt2
        have HB12 := Lib.hid (show Below w1.heap.size w1 w2 from (Below.refl _ _).grown hg2 (Nat.le_refl _) (fun k hk => by cases hk))
        have hS2 : Below wo.heap.size wo w2 := hS1.trans (HB12.out.mono hS1.size)
        clear he2 ho2 hg2 hlt2
        refine hK.out _ _ hS2 (fun hHeld => ?_)
        clear hK K
        simp only [Act.put, List.setIfInBounds_toArray, List.set_cons_zero, List.set_cons_succ]
        refine wpAnyH_take (i := 6) (oi := ⟨some 13, .assign (.tmp 62), _, _, _, _⟩) (v := (.slice (some ⟨g13, 0, none⟩) cols cols)) rfl (by kernel_rfl) (by kernel_rfl) (by kernel_rfl) (fun _ _ _ h => h) (Or.inl ⟨by rfl, fun W hW => by go_simp⟩) (by assumption) ?_
        simp only [Act.put, List.setIfInBounds_toArray, List.set_cons_zero, List.set_cons_succ]
        refine wpAnyH_done (by kernel_rfl) ?_ _
        have HRB := Lib.hid (HO1.out.below HB12.out)
        have HCO := Lib.hid HO2.out
        have HGS := Lib.hid (show g12 ≠ g13 ∧ wo.heap.size ≤ g12 ∧ wo.heap.size ≤ g13 ∧ g12 < w2.heap.size ∧ g13 < w2.heap.size by have := HE1.out; have := HE2.out; have := HLT1.out; have := HLT2.out; have := HB12.out.size; omega)
        clear HE1 HE2 HO1 HO2 HLT1 HLT2 HB12 hS1 hS
        have HS2 := Lib.hid hS2
        have HT2 := Lib.hid (HT.out.below hS2)
        obtain ⟨P, hP⟩ : ∃ P, P = C.map Prod.fst := ⟨_, rfl⟩
        obtain ⟨R, hR⟩ : ∃ R, R = rankS (C.map Prod.snd) := ⟨_, rfl⟩
        have HRC := Lib.hid (rank_any a6 q c6 (C.map Prod.snd) w2 HT2.out.vs.at1 HV64.out (by have := HQB.out; omega))
        have HP2 := Lib.hid HT2.out.ps.at2
        rw [← hP] at HPL HMF HP2
        rw [← hR] at HRL HRI HMF HRC
        have HB2 := Lib.hid (HBO.out.trans (hS2.mono HBO.out.size))
        have HPN := Lib.hid (show P.length = q by rw [hP, List.length_map, HQ.out])
        clear hS2 hP hR
        go_wp2_with (go_at_call 25; go_must (refine HRC.out.mono ?_); rintro e w6 ⟨aR, cR, rfl, hR, hb6, hRb⟩)
        have HRA := Lib.hid hR
        have HRN := Lib.hid hRb
        have HR6 := Lib.hid (HRB.out.below hb6)
        have HC6 := Lib.hid (HCO.out.below hb6)
        have HP6 := Lib.hid (HP2.out.below hb6)
        have HB6 := Lib.hid (HB2.out.trans (hb6.mono HB2.out.size))
        have HG6 := Lib.hid (show g12 < w6.heap.size ∧ g13 < w6.heap.size by have := HGS.out; have := hb6.size; omega)
        have HF6 := Lib.hid (Fr.refl w6 g12 g13)
        have HT6 := Lib.hid (show Own2 w6 w6.heap.size (.slice none 0 0) (greedyF P (R.take 0)) from Own2.nil)
        have HM6 := Lib.hid (Marks.zero Prod.fst i)
        have HM7 := Lib.hid (Marks.zero Prod.snd cols)
        clear hR hb6 hRb HRB HCO HT2 HP2 HRC HT
        have hqI : (q : Int) ≤ 1000000 := by have := HQB.out; omega
        have hq0 : (0 : Int) ≤ (q : Int) := by omega
        go_loopg [14, 66] q (fun g v14 v66 W => ∃ (k r14 : Nat) (a14 : Option Addr) (c14 : Nat) (Rb Cb : List Nat), v14 = .slice a14 r14 c14 ∧ v66 = .int .i64 k ∧ g + k = q ∧ Hid (Fr w6 g12 g13 W) ∧ Hid (Own2 W w6.heap.size (.slice a14 r14 c14) (greedyF P (R.take k))) ∧ Hid ((greedyF P (R.take k)).length = r14) ∧ Hid (Own1 BL 4 W g12 (.slice (some ⟨g12, 0, none⟩) i i) Rb) ∧ Hid (Own1 BL 4 W g13 (.slice (some ⟨g13, 0, none⟩) cols cols) Cb) ∧ Hid (Marks Prod.fst (greedyF P (R.take k)) Rb) ∧ Hid (Marks Prod.snd (greedyF P (R.take k)) Cb))
        case atStart => exact ⟨0, 0, none, 0, _, _, rfl, rfl, rfl, HF6, HT6, Lib.hid rfl, HR6, HC6, HM6, HM7⟩
        case round =>
          clear HF6 HT6 HR6 HC6 HM6 HM7
          obtain ⟨k, r14, a14, c14, Rb, Cb, rfl, rfl, hg, HFr, HT, HTL, HRo, HCo, HMR, HMC⟩ := hrel
          have HG3 := Lib.hid hg
          have hk0 : (0 : Int) ≤ (k : Int) := by omega
          have hkI : (k : Int) ≤ (q : Int) := by omega
          by_cases hk : (k : Int) < (q : Int)
          · have HKQ := Lib.hid (show k < q by omega)
            obtain ⟨p, hp⟩ : ∃ p, p = R.getD k 0 := ⟨_, rfl⟩
            have HPE := Lib.hid hp
            have hpq : p < q := by rw [hp]; exact HRI.out k HKQ.out
            obtain ⟨pr, hpr⟩ : ∃ pr, pr = P.getD p (0, 0) := ⟨_, rfl⟩
            obtain ⟨r, hr⟩ : ∃ r, r = pr.1 := ⟨_, rfl⟩
            obtain ⟨cl, hcl⟩ : ∃ cl, cl = pr.2 := ⟨_, rfl⟩
            have HPR := Lib.hid hpr
            have HRR := Lib.hid hr
            have HCL := Lib.hid hcl
            have hlt := HPL.out p hpq
            rw [← hpr, ← hr, ← hcl] at hlt
            obtain ⟨bR, oR, rfl⟩ := HRA.out.some_ (by omega)
            obtain ⟨bp, op, rfl⟩ := HP6.out.some_ (by omega)
            have HNE := Lib.hid (show (bR ≠ g12 ∧ bR ≠ g13) ∧ (bp ≠ g12 ∧ bp ≠ g13) by
              have h1 := HRN.out bR oR rfl
              have h2 := HPLT.out bp rfl
              have := HGS.out
              omega)
            have hcR : wr.cell? ⟨bR, oR + k, none⟩ = some (.int .i64 (p : Int)) := by
              have := HFr.out.cell (HRA.out.cell k HKQ.out) HNE.out.1.1 HNE.out.1.2
              rwa [← hp] at this
            have hP1 : wr.cell? ⟨bp, op + p * 2, none⟩ = some (.int .i64 (r : Int)) := by
              have := HFr.out.cell (HP6.out.fst p hpq) HNE.out.2.1 HNE.out.2.2
              rwa [← hpr, ← hr] at this
            have hP2 : wr.cell? ⟨bp, op + p * 2 + 1, none⟩ = some (.int .i64 (cl : Int)) := by
              have := HFr.out.cell (HP6.out.snd p hpq) HNE.out.2.1 HNE.out.2.2
              rwa [← hpr, ← hcl] at this
            have HQP := Lib.hid hpq
            have HRLT := Lib.hid hlt
            have HPRG := Lib.hid (show w6.rangeAt bp (op + p * 2) (pc pr) by rw [hpr]; exact HP6.out.range p hpq)
            have pI : (p : Int) < (q : Int) := by omega
            have p0 : (0 : Int) ≤ (p : Int) := by omega
            have HGN := Lib.hid (greedy_next P R (k := k) (by rw [HRL.out]; exact HKQ.out))
            clear hp hpr hr hcl hlt hg
            go_wp2
            go_quiet (fail)
            have hb7 := below_drewN (Below.refl wr.heap.size wr) nq
            have HFr7 := Lib.hid (HFr.out.below hb7)
            have HT7 := Lib.hid (HT.out.below hb7)
            have HRo7 := Lib.hid (HRo.out.below hb7)
            have HCo7 := Lib.hid (HCo.out.below hb7)
            clear hb7 HFr HT HRo HCo hcR hP1 hP2
            generalize wr.drewN nq = w7 at HFr7 HT7 HRo7 HCo7 ⊢
            have HLR := Lib.hid HRo7.out.len
            have HLC := Lib.hid HCo7.out.len
            have rI : (r : Int) < (i : Int) := by have := HRLT.out; omega
            have r0 : (0 : Int) ≤ (r : Int) := by omega
            have rN : r < i := by omega
            have cI : (cl : Int) < (cols : Int) := by have := HRLT.out; omega
            have c0' : (0 : Int) ≤ (cl : Int) := by omega
            have cN : cl < cols := by omega
            obtain ⟨ra, hra⟩ : ∃ ra, ra = (Rb.getD r 0 == 1) := ⟨_, rfl⟩
            obtain ⟨cb, hcb⟩ : ∃ cb, cb = (Cb.getD cl 0 == 1) := ⟨_, rfl⟩
            have hA : w7.cell? ⟨g12, r, none⟩ = some (.bool ra) := by
              have := HRo7.out.at1.cell r rN
              rw [Nat.zero_add] at this
              rw [this, hra]; rfl
            have hB : w7.cell? ⟨g13, cl, none⟩ = some (.bool cb) := by
              have := HCo7.out.at1.cell cl cN
              rw [Nat.zero_add] at this
              rw [this, hcb]; rfl
            have HFB := Lib.hid (show freeB (greedyF P (R.take k)) pr = (!ra && !cb) by
              rw [marks_free HMR.out HMC.out pr (by rw [HLR.out, ← HRR.out]; exact rN) (by rw [HLC.out, ← HCL.out]; exact cN), ← HRR.out, ← HCL.out, hra, hcb])
            have HSTEP := Lib.hid (show greedyF P (R.take (k + 1)) = if (!ra && !cb) then greedyF P (R.take k) ++ [pr] else greedyF P (R.take k) by
              rw [HGN.out]; unfold stepG; rw [← HPE.out, ← HPR.out, HFB.out])
            clear hra hcb HGN HFB
            rcases ra with _ | _
            · rcases cb with _ | _
              · have hfA : w7.frozen? ⟨g12, r, none⟩ = false := by
                  obtain ⟨_, hgr, _, _, _, hfr⟩ := HRo7.out.row (by omega)
                  simp only [Option.some.injEq, Addr.mk.injEq, and_true] at hgr
                  rw [hgr]; exact hfr r
                have hfB : w7.frozen? ⟨g13, cl, none⟩ = false := by
                  obtain ⟨_, hgr, _, _, _, hfr⟩ := HCo7.out.row (by omega)
                  simp only [Option.some.injEq, Addr.mk.injEq, and_true] at hgr
                  rw [hgr]; exact hfr cl
                have hne : g13 ≠ g12 := by have := HGS.out; omega
                have HNEG := Lib.hid hne
                have HTB := Lib.hid (show ∀ j, (Value.slice a14 r14 c14).ownBlock = some j → j ≠ g12 ∧ j ≠ g13 from fun j hj => by have h := (HT7.out.lt j hj).1; have := HG6.out; omega)
                have HFr9 := Lib.hid ((HFr7.out.set g12 r (.bool true) (.inl rfl)).set g13 cl (.bool true) (.inr rfl))
                have HR9 := Lib.hid ((HRo7.out.store HLR.out r 1).other g13 cl (.bool true) (fun j hj => by cases hj; exact Ne.symm HNEG.out))
                have HC9 := Lib.hid ((HCo7.out.other g12 r (.bool true) (fun j hj => by cases hj; exact HNEG.out)).store HLC.out cl 1)
                have HT9 := Lib.hid ((HT7.out.other g12 r (.bool true) (fun j hj => (HTB.out j hj).1)).other g13 cl (.bool true) (fun j hj => (HTB.out j hj).2))
                have HRG9 := Lib.hid (show ((w7.setCell ⟨g12, r, none⟩ (.bool true)).setCell ⟨g13, cl, none⟩ (.bool true)).rangeAt bp (op + p * 2) (pc pr) from fun j v hj => HFr9.out.cell (HPRG.out j v hj) HNE.out.2.1 HNE.out.2.2)
                have HSZ := Lib.hid (show w6.heap.size ≤ ((w7.setCell ⟨g12, r, none⟩ (.bool true)).setCell ⟨g13, cl, none⟩ (.bool true)).heap.size from HFr9.out.size)
                have HOP := Lib.hid (HT9.out.alloc (.cells #[N pr.1, N pr.2] 48))
                have HSRC := Lib.hid (show (((w7.setCell ⟨g12, r, none⟩ (.bool true)).setCell ⟨g13, cl, none⟩ (.bool true)).alloc (.cells #[N pr.1, N pr.2] 48)).rangeAt ((w7.setCell ⟨g12, r, none⟩ (.bool true)).setCell ⟨g13, cl, none⟩ (.bool true)).heap.size 0 (pc pr) from pair_src _ pr)
                have HZ := Lib.hid (show w6.heap.size ≤ (((w7.setCell ⟨g12, r, none⟩ (.bool true)).setCell ⟨g13, cl, none⟩ (.bool true)).alloc (.cells #[N pr.1, N pr.2] 48)).heap.size from Nat.le_trans HSZ.out (by rw [World.size_alloc]; omega))
                have HLEN := Lib.hid (show r14 + 1 = (greedyF P (R.take k)).length + 1 by rw [HTL.out])
                have H48 := Lib.hid (show (greedyF P (R.take k)).length + 1 ≤ 1000000000000 by have h1 := greedy_length P (R.take k); have h2 := List.length_take_le k R; have := HKQ.out; have := HQB.out; omega)
                go_wp2_with (first
                  | ((with_reducible show wpList _ _ _ (⟨some 102, _, _, _, _, _⟩ :: _) _ _); refine wl_loadP (wanted_plain rfl) _ rfl bp (op + p * 2) pr rfl HRG9.out ?_)
                  | ((with_reducible show wpList _ _ _ (⟨some 103, _, _, _, _, _⟩ :: _) _ _); refine wl_pair1 rfl _ rfl pr rfl ?_)
                  | ((with_reducible show wpList _ _ _ (⟨some 104, _, _, _, _, _⟩ :: _) _ _); go_must (refine app2_told rfl (.tmp 98) (.tmp 103) rfl w6.heap.size _ (greedyF P (R.take k)) rfl HOP.out _ pr rfl HSRC.out H48.out HZ.out (r14 + 1) HLEN.out ?_); intro a10 c10 w10 hown hgr htd; have HON := Lib.hid hown; have HGR := Lib.hid (show World.grownBy _ w10 (Value.slice a14 r14 c14).ownBlock from hgr); clear hown hgr htd))
                have HSE := Lib.hid (show greedyF P (R.take (k + 1)) = greedyF P (R.take k) ++ [pr] by rw [HSTEP.out]; rfl)
                have HFrN := Lib.hid ((HFr9.out.below ((Below.refl _ _).alloc (Nat.le_refl _) (.cells #[N pr.1, N pr.2] 48))).grown HGR.out (fun j hj => (HOP.out.lt j hj).1))
                have HRN2 := Lib.hid ((HR9.out.alloc (.cells #[N pr.1, N pr.2] 48)).kept HGR.out (.inr (fun e => (HTB.out g12 e.symm).1 rfl)))
                have HCN2 := Lib.hid ((HC9.out.alloc (.cells #[N pr.1, N pr.2] 48)).kept HGR.out (.inr (fun e => (HTB.out g13 e.symm).2 rfl)))
                have HMR2 := Lib.hid (show Marks Prod.fst (greedyF P (R.take k) ++ [pr]) (Rb.set r 1) by rw [HRR.out]; exact HMR.out.next pr (by rw [HLR.out, ← HRR.out]; exact rN))
                have HMC2 := Lib.hid (show Marks Prod.snd (greedyF P (R.take k) ++ [pr]) (Cb.set cl 1) by rw [HCL.out]; exact HMC.out.next pr (by rw [HLC.out, ← HCL.out]; exact cN))
                have HLN2 := Lib.hid (show (greedyF P (R.take k) ++ [pr]).length = r14 + 1 by rw [List.length_append, HTL.out]; rfl)
                go_roundg (q - (k + 1))
                case measure => have := HG3.out; have := HKQ.out; omega
                case rel => exact ⟨k + 1, r14 + 1, a10, c10, Rb.set r 1, Cb.set cl 1, rfl, by go_num, by have := HKQ.out; omega, HFrN, by rw [HSE.out]; exact HON, by rw [HSE.out]; exact HLN2, HRN2, HCN2, by rw [HSE.out]; exact HMR2, by rw [HSE.out]; exact HMC2⟩
              · have HSE := Lib.hid (show greedyF P (R.take (k + 1)) = greedyF P (R.take k) by rw [HSTEP.out]; rfl)
                go_wp2
                go_roundg (q - (k + 1))
                case measure => have := HG3.out; have := HKQ.out; omega
                case rel => exact ⟨k + 1, r14, a14, c14, Rb, Cb, rfl, by go_num, by have := HKQ.out; omega, HFr7, by rw [HSE.out]; exact HT7, by rw [HSE.out]; exact HTL, HRo7, HCo7, by rw [HSE.out]; exact HMR, by rw [HSE.out]; exact HMC⟩
            · have HSE := Lib.hid (show greedyF P (R.take (k + 1)) = greedyF P (R.take k) by rw [HSTEP.out]; rfl)
              go_wp2
              go_roundg (q - (k + 1))
              case measure => have := HG3.out; have := HKQ.out; omega
              case rel => exact ⟨k + 1, r14, a14, c14, Rb, Cb, rfl, by go_num, by have := HKQ.out; omega, HFr7, by rw [HSE.out]; exact HT7, by rw [HSE.out]; exact HTL, HRo7, HCo7, by rw [HSE.out]; exact HMR, by rw [HSE.out]; exact HMC⟩
          · have HFIN := Lib.hid (show greedyF P (R.take k) = matchF least M by rw [HMF.out, List.take_of_length_le (by rw [HRL.out]; omega)])
            clear hg
            go_wp2
            go_ret
            refine ⟨a14, r14, c14, rfl, ?_, HFr.out.toBelow HB6.out (by have := HGS.out; have := HBO.out.size; omega) (by have := HGS.out; have := HBO.out.size; omega) HB6.out.size⟩
            rw [← HFIN.out]
            exact HT.out.at2
      · refine step_bools (.tmp 61) cols HCB.out ?_
        intro g13 w1 he1 ho1 hg1 hlt1
        have HE1 := Lib.hid (show wo.heap.size = g13 from he1.symm)
        have HO1 := Lib.hid ho1
        have HLT1 := Lib.hid hlt1
        have hS1 : Below wo.heap.size wo w1 := hS.grown hg1 hS.size (fun k hk => by cases hk)
        clear he1 ho1 hg1 hlt1
        refine hK.out _ _ hS1 (fun hHeld => ?_)
        clear hK K
        simp only [Act.put, List.setIfInBounds_toArray, List.set_cons_zero, List.set_cons_succ]
        refine wpAnyH_ready (rs := [2]) (by kernel_rfl) (by simp) ?_
        refine AllReadyH.cons (o := ⟨some 60, .makeSlice 93 (.tmp 59) (.tmp 59), _, _, _, _⟩) rfl (fun K hK => ?_) AllReadyH.nil
        refine step_bools (.tmp 59) i HNB.out ?_
        intro g12 w2 he2 ho2 hg2 hlt2
        have HE2 := Lib.hid (show w1.heap.size = g12 from he2.symm)
        have HO2 := Lib.hid ho2
        have HLT2 := Lib.hid hlt2
        have HB12 := Lib.hid (show Below w1.heap.size w1 w2 from (Below.refl _ _).grown hg2 (Nat.le_refl _) (fun k hk => by cases hk))
        have hS2 : Below wo.heap.size wo w2 := hS1.trans (HB12.out.mono hS1.size)
        clear he2 ho2 hg2 hlt2
        refine hK.out _ _ hS2 (fun hHeld => ?_)
        clear hK K
        simp only [Act.put, List.setIfInBounds_toArray, List.set_cons_zero, List.set_cons_succ]
        refine wpAnyH_take (i := 5) (oi := ⟨some 12, .assign (.tmp 60), _, _, _, _⟩) (v := (.slice (some ⟨g12, 0, none⟩) i i)) rfl (by kernel_rfl) (by kernel_rfl) (by kernel_rfl) (fun _ _ _ h => h) (Or.inl ⟨by rfl, fun W hW => by go_simp⟩) (by assumption) ?_
        simp only [Act.put, List.setIfInBounds_toArray, List.set_cons_zero, List.set_cons_succ]
        refine wpAnyH_take (i := 6) (oi := ⟨some 13, .assign (.tmp 62), _, _, _, _⟩) (v := (.slice (some ⟨g13, 0, none⟩) cols cols)) rfl (by kernel_rfl) (by kernel_rfl) (by kernel_rfl) (fun _ _ _ h => h) (Or.inl ⟨by rfl, fun W hW => by go_simp⟩) (by assumption) ?_
        simp only [Act.put, List.setIfInBounds_toArray, List.set_cons_zero, List.set_cons_succ]
        refine wpAnyH_done (by kernel_rfl) ?_ _
        have HRB := Lib.hid HO2.out
        have HCO := Lib.hid (HO1.out.below HB12.out)
        have HGS := Lib.hid (show g12 ≠ g13 ∧ wo.heap.size ≤ g12 ∧ wo.heap.size ≤ g13 ∧ g12 < w2.heap.size ∧ g13 < w2.heap.size by have := HE1.out; have := HE2.out; have := HLT1.out; have := HLT2.out; have := HB12.out.size; omega)
        clear HE1 HE2 HO1 HO2 HLT1 HLT2 HB12 hS1 hS
        have HS2 := Lib.hid hS2
        have HT2 := Lib.hid (HT.out.below hS2)
        obtain ⟨P, hP⟩ : ∃ P, P = C.map Prod.fst := ⟨_, rfl⟩
        obtain ⟨R, hR⟩ : ∃ R, R = rankS (C.map Prod.snd) := ⟨_, rfl⟩
        have HRC := Lib.hid (rank_any a6 q c6 (C.map Prod.snd) w2 HT2.out.vs.at1 HV64.out (by have := HQB.out; omega))
        have HP2 := Lib.hid HT2.out.ps.at2
        rw [← hP] at HPL HMF HP2
        rw [← hR] at HRL HRI HMF HRC
        have HB2 := Lib.hid (HBO.out.trans (hS2.mono HBO.out.size))
        have HPN := Lib.hid (show P.length = q by rw [hP, List.length_map, HQ.out])
        clear hS2 hP hR
        go_wp2_with (go_at_call 25; go_must (refine HRC.out.mono ?_); rintro e w6 ⟨aR, cR, rfl, hR, hb6, hRb⟩)
        have HRA := Lib.hid hR
        have HRN := Lib.hid hRb
        have HR6 := Lib.hid (HRB.out.below hb6)
        have HC6 := Lib.hid (HCO.out.below hb6)
        have HP6 := Lib.hid (HP2.out.below hb6)
        have HB6 := Lib.hid (HB2.out.trans (hb6.mono HB2.out.size))
        have HG6 := Lib.hid (show g12 < w6.heap.size ∧ g13 < w6.heap.size by have := HGS.out; have := hb6.size; omega)
        have HF6 := Lib.hid (Fr.refl w6 g12 g13)
        have HT6 := Lib.hid (show Own2 w6 w6.heap.size (.slice none 0 0) (greedyF P (R.take 0)) from Own2.nil)
        have HM6 := Lib.hid (Marks.zero Prod.fst i)
        have HM7 := Lib.hid (Marks.zero Prod.snd cols)
        clear hR hb6 hRb HRB HCO HT2 HP2 HRC HT
        have hqI : (q : Int) ≤ 1000000 := by have := HQB.out; omega
        have hq0 : (0 : Int) ≤ (q : Int) := by omega
        go_loopg [14, 66] q (fun g v14 v66 W => ∃ (k r14 : Nat) (a14 : Option Addr) (c14 : Nat) (Rb Cb : List Nat), v14 = .slice a14 r14 c14 ∧ v66 = .int .i64 k ∧ g + k = q ∧ Hid (Fr w6 g12 g13 W) ∧ Hid (Own2 W w6.heap.size (.slice a14 r14 c14) (greedyF P (R.take k))) ∧ Hid ((greedyF P (R.take k)).length = r14) ∧ Hid (Own1 BL 4 W g12 (.slice (some ⟨g12, 0, none⟩) i i) Rb) ∧ Hid (Own1 BL 4 W g13 (.slice (some ⟨g13, 0, none⟩) cols cols) Cb) ∧ Hid (Marks Prod.fst (greedyF P (R.take k)) Rb) ∧ Hid (Marks Prod.snd (greedyF P (R.take k)) Cb))
        case atStart => exact ⟨0, 0, none, 0, _, _, rfl, rfl, rfl, HF6, HT6, Lib.hid rfl, HR6, HC6, HM6, HM7⟩
        case round =>
          clear HF6 HT6 HR6 HC6 HM6 HM7
          obtain ⟨k, r14, a14, c14, Rb, Cb, rfl, rfl, hg, HFr, HT, HTL, HRo, HCo, HMR, HMC⟩ := hrel
          have HG3 := Lib.hid hg
          have hk0 : (0 : Int) ≤ (k : Int) := by omega
          have hkI : (k : Int) ≤ (q : Int) := by omega
          by_cases hk : (k : Int) < (q : Int)
          · have HKQ := Lib.hid (show k < q by omega)
            obtain ⟨p, hp⟩ : ∃ p, p = R.getD k 0 := ⟨_, rfl⟩
            have HPE := Lib.hid hp
            have hpq : p < q := by rw [hp]; exact HRI.out k HKQ.out
            obtain ⟨pr, hpr⟩ : ∃ pr, pr = P.getD p (0, 0) := ⟨_, rfl⟩
            obtain ⟨r, hr⟩ : ∃ r, r = pr.1 := ⟨_, rfl⟩
            obtain ⟨cl, hcl⟩ : ∃ cl, cl = pr.2 := ⟨_, rfl⟩
            have HPR := Lib.hid hpr
            have HRR := Lib.hid hr
            have HCL := Lib.hid hcl
            have hlt := HPL.out p hpq
            rw [← hpr, ← hr, ← hcl] at hlt
            obtain ⟨bR, oR, rfl⟩ := HRA.out.some_ (by omega)
            obtain ⟨bp, op, rfl⟩ := HP6.out.some_ (by omega)
            have HNE := Lib.hid (show (bR ≠ g12 ∧ bR ≠ g13) ∧ (bp ≠ g12 ∧ bp ≠ g13) by
              have h1 := HRN.out bR oR rfl
              have h2 := HPLT.out bp rfl
              have := HGS.out
              omega)
            have hcR : wr.cell? ⟨bR, oR + k, none⟩ = some (.int .i64 (p : Int)) := by
              have := HFr.out.cell (HRA.out.cell k HKQ.out) HNE.out.1.1 HNE.out.1.2
              rwa [← hp] at this
            have hP1 : wr.cell? ⟨bp, op + p * 2, none⟩ = some (.int .i64 (r : Int)) := by
              have := HFr.out.cell (HP6.out.fst p hpq) HNE.out.2.1 HNE.out.2.2
              rwa [← hpr, ← hr] at this
            have hP2 : wr.cell? ⟨bp, op + p * 2 + 1, none⟩ = some (.int .i64 (cl : Int)) := by
              have := HFr.out.cell (HP6.out.snd p hpq) HNE.out.2.1 HNE.out.2.2
              rwa [← hpr, ← hcl] at this
            have HQP := Lib.hid hpq
            have HRLT := Lib.hid hlt
            have HPRG := Lib.hid (show w6.rangeAt bp (op + p * 2) (pc pr) by rw [hpr]; exact HP6.out.range p hpq)
            have pI : (p : Int) < (q : Int) := by omega
            have p0 : (0 : Int) ≤ (p : Int) := by omega
            have HGN := Lib.hid (greedy_next P R (k := k) (by rw [HRL.out]; exact HKQ.out))
            clear hp hpr hr hcl hlt hg
            go_wp2
            go_quiet (fail)
            have hb7 := below_drewN (Below.refl wr.heap.size wr) nq
            have HFr7 := Lib.hid (HFr.out.below hb7)
            have HT7 := Lib.hid (HT.out.below hb7)
            have HRo7 := Lib.hid (HRo.out.below hb7)
            have HCo7 := Lib.hid (HCo.out.below hb7)
            clear hb7 HFr HT HRo HCo hcR hP1 hP2
            generalize wr.drewN nq = w7 at HFr7 HT7 HRo7 HCo7 ⊢
            have HLR := Lib.hid HRo7.out.len
            have HLC := Lib.hid HCo7.out.len
            have rI : (r : Int) < (i : Int) := by have := HRLT.out; omega
            have r0 : (0 : Int) ≤ (r : Int) := by omega
            have rN : r < i := by omega
            have cI : (cl : Int) < (cols : Int) := by have := HRLT.out; omega
            have c0' : (0 : Int) ≤ (cl : Int) := by omega
            have cN : cl < cols := by omega
            obtain ⟨ra, hra⟩ : ∃ ra, ra = (Rb.getD r 0 == 1) := ⟨_, rfl⟩
            obtain ⟨cb, hcb⟩ : ∃ cb, cb = (Cb.getD cl 0 == 1) := ⟨_, rfl⟩
            have hA : w7.cell? ⟨g12, r, none⟩ = some (.bool ra) := by
              have := HRo7.out.at1.cell r rN
              rw [Nat.zero_add] at this
              rw [this, hra]; rfl
            have hB : w7.cell? ⟨g13, cl, none⟩ = some (.bool cb) := by
              have := HCo7.out.at1.cell cl cN
              rw [Nat.zero_add] at this
              rw [this, hcb]; rfl
            have HFB := Lib.hid (show freeB (greedyF P (R.take k)) pr = (!ra && !cb) by
              rw [marks_free HMR.out HMC.out pr (by rw [HLR.out, ← HRR.out]; exact rN) (by rw [HLC.out, ← HCL.out]; exact cN), ← HRR.out, ← HCL.out, hra, hcb])
            have HSTEP := Lib.hid (show greedyF P (R.take (k + 1)) = if (!ra && !cb) then greedyF P (R.take k) ++ [pr] else greedyF P (R.take k) by
              rw [HGN.out]; unfold stepG; rw [← HPE.out, ← HPR.out, HFB.out])
            clear hra hcb HGN HFB
            rcases ra with _ | _
            · rcases cb with _ | _
              · have hfA : w7.frozen? ⟨g12, r, none⟩ = false := by
                  obtain ⟨_, hgr, _, _, _, hfr⟩ := HRo7.out.row (by omega)
                  simp only [Option.some.injEq, Addr.mk.injEq, and_true] at hgr
                  rw [hgr]; exact hfr r
                have hfB : w7.frozen? ⟨g13, cl, none⟩ = false := by
                  obtain ⟨_, hgr, _, _, _, hfr⟩ := HCo7.out.row (by omega)
                  simp only [Option.some.injEq, Addr.mk.injEq, and_true] at hgr
                  rw [hgr]; exact hfr cl
                have hne : g13 ≠ g12 := by have := HGS.out; omega
                have HNEG := Lib.hid hne
                have HTB := Lib.hid (show ∀ j, (Value.slice a14 r14 c14).ownBlock = some j → j ≠ g12 ∧ j ≠ g13 from fun j hj => by have h := (HT7.out.lt j hj).1; have := HG6.out; omega)
                have HFr9 := Lib.hid ((HFr7.out.set g12 r (.bool true) (.inl rfl)).set g13 cl (.bool true) (.inr rfl))
                have HR9 := Lib.hid ((HRo7.out.store HLR.out r 1).other g13 cl (.bool true) (fun j hj => by cases hj; exact Ne.symm HNEG.out))
                have HC9 := Lib.hid ((HCo7.out.other g12 r (.bool true) (fun j hj => by cases hj; exact HNEG.out)).store HLC.out cl 1)
                have HT9 := Lib.hid ((HT7.out.other g12 r (.bool true) (fun j hj => (HTB.out j hj).1)).other g13 cl (.bool true) (fun j hj => (HTB.out j hj).2))
                have HRG9 := Lib.hid (show ((w7.setCell ⟨g12, r, none⟩ (.bool true)).setCell ⟨g13, cl, none⟩ (.bool true)).rangeAt bp (op + p * 2) (pc pr) from fun j v hj => HFr9.out.cell (HPRG.out j v hj) HNE.out.2.1 HNE.out.2.2)
                have HSZ := Lib.hid (show w6.heap.size ≤ ((w7.setCell ⟨g12, r, none⟩ (.bool true)).setCell ⟨g13, cl, none⟩ (.bool true)).heap.size from HFr9.out.size)
                have HOP := Lib.hid (HT9.out.alloc (.cells #[N pr.1, N pr.2] 48))
                have HSRC := Lib.hid (show (((w7.setCell ⟨g12, r, none⟩ (.bool true)).setCell ⟨g13, cl, none⟩ (.bool true)).alloc (.cells #[N pr.1, N pr.2] 48)).rangeAt ((w7.setCell ⟨g12, r, none⟩ (.bool true)).setCell ⟨g13, cl, none⟩ (.bool true)).heap.size 0 (pc pr) from pair_src _ pr)
                have HZ := Lib.hid (show w6.heap.size ≤ (((w7.setCell ⟨g12, r, none⟩ (.bool true)).setCell ⟨g13, cl, none⟩ (.bool true)).alloc (.cells #[N pr.1, N pr.2] 48)).heap.size from Nat.le_trans HSZ.out (by rw [World.size_alloc]; omega))
                have HLEN := Lib.hid (show r14 + 1 = (greedyF P (R.take k)).length + 1 by rw [HTL.out])
                have H48 := Lib.hid (show (greedyF P (R.take k)).length + 1 ≤ 1000000000000 by have h1 := greedy_length P (R.take k); have h2 := List.length_take_le k R; have := HKQ.out; have := HQB.out; omega)
                go_wp2_with (first
                  | ((with_reducible show wpList _ _ _ (⟨some 102, _, _, _, _, _⟩ :: _) _ _); refine wl_loadP (wanted_plain rfl) _ rfl bp (op + p * 2) pr rfl HRG9.out ?_)
                  | ((with_reducible show wpList _ _ _ (⟨some 103, _, _, _, _, _⟩ :: _) _ _); refine wl_pair1 rfl _ rfl pr rfl ?_)
                  | ((with_reducible show wpList _ _ _ (⟨some 104, _, _, _, _, _⟩ :: _) _ _); go_must (refine app2_told rfl (.tmp 98) (.tmp 103) rfl w6.heap.size _ (greedyF P (R.take k)) rfl HOP.out _ pr rfl HSRC.out H48.out HZ.out (r14 + 1) HLEN.out ?_); intro a10 c10 w10 hown hgr htd; have HON := Lib.hid hown; have HGR := Lib.hid (show World.grownBy _ w10 (Value.slice a14 r14 c14).ownBlock from hgr); clear hown hgr htd))
                have HSE := Lib.hid (show greedyF P (R.take (k + 1)) = greedyF P (R.take k) ++ [pr] by rw [HSTEP.out]; rfl)
                have HFrN := Lib.hid ((HFr9.out.below ((Below.refl _ _).alloc (Nat.le_refl _) (.cells #[N pr.1, N pr.2] 48))).grown HGR.out (fun j hj => (HOP.out.lt j hj).1))
                have HRN2 := Lib.hid ((HR9.out.alloc (.cells #[N pr.1, N pr.2] 48)).kept HGR.out (.inr (fun e => (HTB.out g12 e.symm).1 rfl)))
                have HCN2 := Lib.hid ((HC9.out.alloc (.cells #[N pr.1, N pr.2] 48)).kept HGR.out (.inr (fun e => (HTB.out g13 e.symm).2 rfl)))
                have HMR2 := Lib.hid (show Marks Prod.fst (greedyF P (R.take k) ++ [pr]) (Rb.set r 1) by rw [HRR.out]; exact HMR.out.next pr (by rw [HLR.out, ← HRR.out]; exact rN))
                have HMC2 := Lib.hid (show Marks Prod.snd (greedyF P (R.take k) ++ [pr]) (Cb.set cl 1) by rw [HCL.out]; exact HMC.out.next pr (by rw [HLC.out, ← HCL.out]; exact cN))
                have HLN2 := Lib.hid (show (greedyF P (R.take k) ++ [pr]).length = r14 + 1 by rw [List.length_append, HTL.out]; rfl)
                go_roundg (q - (k + 1))
                case measure => have := HG3.out; have := HKQ.out; omega
                case rel => exact ⟨k + 1, r14 + 1, a10, c10, Rb.set r 1, Cb.set cl 1, rfl, by go_num, by have := HKQ.out; omega, HFrN, by rw [HSE.out]; exact HON, by rw [HSE.out]; exact HLN2, HRN2, HCN2, by rw [HSE.out]; exact HMR2, by rw [HSE.out]; exact HMC2⟩
              · have HSE := Lib.hid (show greedyF P (R.take (k + 1)) = greedyF P (R.take k) by rw [HSTEP.out]; rfl)
                go_wp2
                go_roundg (q - (k + 1))
                case measure => have := HG3.out; have := HKQ.out; omega
                case rel => exact ⟨k + 1, r14, a14, c14, Rb, Cb, rfl, by go_num, by have := HKQ.out; omega, HFr7, by rw [HSE.out]; exact HT7, by rw [HSE.out]; exact HTL, HRo7, HCo7, by rw [HSE.out]; exact HMR, by rw [HSE.out]; exact HMC⟩
            · have HSE := Lib.hid (show greedyF P (R.take (k + 1)) = greedyF P (R.take k) by rw [HSTEP.out]; rfl)
              go_wp2
              go_roundg (q - (k + 1))
              case measure => have := HG3.out; have := HKQ.out; omega
              case rel => exact ⟨k + 1, r14, a14, c14, Rb, Cb, rfl, by go_num, by have := HKQ.out; omega, HFr7, by rw [HSE.out]; exact HT7, by rw [HSE.out]; exact HTL, HRo7, HCo7, by rw [HSE.out]; exact HMR, by rw [HSE.out]; exact HMC⟩
          · have HFIN := Lib.hid (show greedyF P (R.take k) = matchF least M by rw [HMF.out, List.take_of_length_le (by rw [HRL.out]; omega)])
            clear hg
            go_wp2
            go_ret
            refine ⟨a14, r14, c14, rfl, ?_, HFr.out.toBelow HB6.out (by have := HGS.out; have := HBO.out.size; omega) (by have := HGS.out; have := HBO.out.size; omega) HB6.out.size⟩
            rw [← HFIN.out]
            exact HT.out.at2
#print axioms match_any
end Go.Proofs.Ytkafeadgjpglaaa
