/-
  The walk of longest: the longest row that stands in the bytes, and the least place where it does.
-/
import Derived.Test.YtheigemfbcgjcaaDlSeek
import Derived.Test.YtheigemfbcgjcaaDlFirst
namespace Go.Proofs.Ytheigemfbcgjcaa
open Go.RowKit Go.Lib

theorem bytes_drop {w : World} {b off n c p : Nat} {l : List UInt8} (h : Bytes w (some ⟨b, off, none⟩) n c l) (hp : p ≤ n) : Bytes w (some ⟨b, off + p, none⟩) (n - p) (c - p) (l.drop p) := by
  obtain ⟨h1, h2, h3, h4⟩ := h
  refine ⟨by rw [List.length_drop]; omega, by omega, by omega, ?_⟩
  rcases h4 with ⟨h4, h5⟩ | ⟨b', off', ha, hc⟩
  · exact .inl ⟨by omega, by first | (subst h5; omega) | omega⟩
  · injection ha with ha
    injection ha with e1 e2 _
    subst e1; subst e2
    refine .inr ⟨b, off + p, rfl, fun j hj => ?_⟩
    rw [show off + p + j = off + (p + j) from by omega, hc (p + j) (by omega), List.getD_eq_getElem?_getD, List.getD_eq_getElem?_getD, List.getElem?_drop]
theorem bytes_row {w : World} {b off n c : Nat} {l : List UInt8} (h : Bytes w (some ⟨b, off, none⟩) n c l) (h8 : 8 ≤ n) : w.rangeAt b off ((l.take 8).map B) := fun j v hj => by
  have hl := h.1
  have hjl : j < 8 := by have := (List.getElem?_eq_some_iff.1 hj).1; rw [List.length_map, List.length_take] at this; omega
  rw [bcell h j (by omega)]
  rw [List.getElem?_map, List.getElem?_take, if_pos hjl] at hj
  rw [List.getD_eq_getElem?_getD]
  cases hb : l[j]? with
  | none => rw [hb] at hj; cases hj
  | some x => rw [hb] at hj; exact hj
theorem exec_arrP {w : World} {o : Oper} {a : Act} (x : Operand) (ho : o.op = .sliceToArrayPointer RowT x) (b off n c : Nat) (hx : a.eval x = .slice (some ⟨b, off, none⟩) n c) (h8 : 8 ≤ n) :
    (execOp a.eval o).run Try.prog w = .ok (.value (.pointer (some ⟨b, off, none⟩))) w := by
  have hr := run_arrayAt (P := Try.prog) w RowT 5 8 (some ⟨b, off, none⟩) n c Try.underlying58 h8
  unfold execOp
  simp only [ho, hx, Sem.run_bind, hr, Result.andThen_ok, Sem.run_pure]
theorem exec_spanA {w : World} {o : Oper} {a : Act} (x : Operand) (ho : o.op = .load SpanT x) (g f t : Nat) (hx : a.eval x = .pointer (some ⟨g, 0, none⟩)) (h : RowAt w g SpanT [.int .i64 (f : Nat), .int .i64 (t : Nat)]) :
    (execOp a.eval o).run Try.prog w = .ok (.value (.agg #[.int .i64 (f : Nat), .int .i64 (t : Nat)])) w := exec_spanL x ho g f t hx h
theorem places_lt {b : List UInt8} {P : List Nat} (h : InOrd b P) {n : Nat} (hn : b.length = n) : ∀ j, j < n → P.getD j 0 < n := fun j hj => by
  rw [← hn]
  exact getD_lt (fun x hx => List.mem_range.1 (h.perm.mem_iff.1 hx)) (by rw [h.len, hn]; exact hj)
/-- What holds of what all three searches read. -/
structure LongW (w : World) (gR n c gp kb k bb off g1 bw offw nw cw : Nat) (v3 : Value) (P : List Nat) (Bg : List UInt8 → Option (Nat × Nat)) (b wt : List UInt8) : Prop where
  rows : RowsAt w gR (some ⟨bb, off, none⟩) n c gp kb k v3 P Bg
  base : Bytes w (some ⟨bb, off, none⟩) n c b
  want : Bytes w (some ⟨bw, offw, none⟩) nw cw wt
  box : w.cell? ⟨g1, 0, none⟩ = some (.slice (some ⟨bw, offw, none⟩) nw cw)
section
variable {w w' : World} {gR n c gp kb k bb off g1 bw offw nw cw : Nat} {v3 : Value} {P : List Nat} {Bg : List UInt8 → Option (Nat × Nat)} {b wt : List UInt8}
theorem LongW.below (h : LongW w gR n c gp kb k bb off g1 bw offw nw cw v3 P Bg b wt) (hb : Below w.heap.size w w') : LongW w' gR n c gp kb k bb off g1 bw offw nw cw v3 P Bg b wt :=
  ⟨h.rows.below hb, h.base.below hb, h.want.below hb, (hb.cell (World.block_lt_of_cell? _ _ h.box)).trans h.box⟩
theorem LongW.test1 (h : LongW w gR n c gp kb k bb off g1 bw offw nw cw v3 P Bg b wt) : ∀ W, Below w.heap.size w W → ∀ p, p < n → Calls Try.prog 32 #[.slice (some ⟨bb, off + p, none⟩) (n - p) (c - p), .pointer (some ⟨g1, 0, none⟩)] W fun e w' => e = .returned (.bool (decide (0 ≤ compareBytes (b.drop p) wt))) ∧ w' = W := fun W hb p hp => by
  have h2 := h.below hb
  refine (test1_any (bytes_drop h2.base (by omega)) h2.want h2.box rfl).mono ?_
  rintro e w' ⟨rfl, rfl⟩
  exact ⟨rfl, rfl⟩
theorem LongW.test2 (h : LongW w gR n c gp kb k bb off g1 bw offw nw cw v3 P Bg b wt) {g2 l : Nat} (hl : l ≤ nw) (hc : w.cell? ⟨g2, 0, none⟩ = some (.slice (some ⟨bw, offw, none⟩) l cw)) : ∀ W, Below w.heap.size w W → ∀ p, p < n → Calls Try.prog 35 #[.slice (some ⟨bb, off + p, none⟩) (n - p) (c - p), .pointer (some ⟨g2, 0, none⟩)] W fun e w' => e = .returned (.bool (decide (0 ≤ compareBytes (b.drop p) (wt.take l)))) ∧ w' = W := fun W hb p hp => by
  have h2 := h.below hb
  refine (test2_any (bytes_drop h2.base (by omega)) (bytes_take h2.want hl) ((hb.cell (World.block_lt_of_cell? _ _ hc)).trans hc) rfl).mono ?_
  rintro e w' ⟨rfl, rfl⟩
  exact ⟨rfl, rfl⟩
theorem LongW.test3 (h : LongW w gR n c gp kb k bb off g1 bw offw nw cw v3 P Bg b wt) {g2 l : Nat} (hl : l ≤ nw) (hc : w.cell? ⟨g2, 0, none⟩ = some (.slice (some ⟨bw, offw, none⟩) l cw)) : ∀ W, Below w.heap.size w W → ∀ p, p < n → Calls Try.prog 36 #[.slice (some ⟨bb, off + p, none⟩) (n - p) (c - p), .pointer (some ⟨g2, 0, none⟩)] W fun e w' => e = .returned (.bool !decide (wt.take l <+: b.drop p)) ∧ w' = W := fun W hb p hp => by
  have h2 := h.below hb
  refine (test3_any (bytes_drop h2.base (by omega)) (bytes_take h2.want hl) ((hb.cell (World.block_lt_of_cell? _ _ hc)).trans hc) rfl).mono ?_
  rintro e w' ⟨rfl, rfl⟩
  exact ⟨rfl, rfl⟩
theorem LongW.drew (h : LongW w gR n c gp kb k bb off g1 bw offw nw cw v3 P Bg b wt) : LongW w.drew gR n c gp kb k bb off g1 bw offw nw cw v3 P Bg b wt :=
  h.below (Below.refl _ _).drew
end
/-- The first search, of all that is wanted. -/
theorem seek1_any {w : World} {gR n c gp kb k bb off g1 bw offw nw cw f t : Nat} {v3 : Value} {P : List Nat} {Bg : List UInt8 → Option (Nat × Nat)} {b wt : List UInt8} (h : LongW w gR n c gp kb k bb off g1 bw offw nw cw v3 P Bg b wt) (hP : InOrd b P) (hn : n ≤ 400000) (hft : f ≤ t) (htn : t ≤ n) :
    Calls Try.prog 31 #[.pointer (some ⟨gR, 0, none⟩), .agg #[.int .i64 (f : Nat), .int .i64 (t : Nat)], .func (.func 32) #[] #[.pointer (some ⟨g1, 0, none⟩)]] w fun e w' => ∃ m : Nat, e = .returned (.int .i64 (m : Nat)) ∧ FirstAt f t (fun j => 0 ≤ compareBytes (stB b P j) wt) m ∧ Below w.heap.size w w' := by
  have hbl := h.base.1
  have hlen := hP.len
  refine (seek_any 32 g1 gR gp kb k bb off n c f t v3 P Bg w (fun p => decide (0 ≤ compareBytes (b.drop p) wt)) (enters_of Try.func32 (by kernel_rfl) rfl) h.rows hn h.base.2.1 (places_lt hP hbl) hft htn h.test1 (fun i j h1 h2 h3 h4 => ?_)).mono ?_
  · rw [decide_eq_true_iff] at h4 ⊢
    have h5 := ord_le hP h2 (by omega : j < P.length)
    have h6 := cmpB_swap (b.drop (P.getD i 0)) wt
    have h7 := cmpB_swap (b.drop (P.getD j 0)) wt
    have h8 : compareBytes wt (b.drop (P.getD j 0)) ≤ 0 := cmpB_trans (b := b.drop (P.getD i 0)) (by omega) h5
    omega
  · rintro e w' ⟨m, rfl, hF, hb⟩
    exact ⟨m, rfl, ⟨hF.1, hF.2.1, fun j h1 h2 => by rw [← hF.2.2 j h1 h2]; show _ ↔ decide (0 ≤ compareBytes (stB b P j) wt) = true; rw [decide_eq_true_iff]⟩, hb⟩
/-- The second search, of the row. -/
theorem seek2_any {w : World} {gR n c gp kb k bb off g1 bw offw nw cw f t g2 l : Nat} {v3 : Value} {P : List Nat} {Bg : List UInt8 → Option (Nat × Nat)} {b wt : List UInt8} (h : LongW w gR n c gp kb k bb off g1 bw offw nw cw v3 P Bg b wt) (hP : InOrd b P) (hn : n ≤ 400000) (hft : f ≤ t) (htn : t ≤ n) (hl : l ≤ nw) (hc : w.cell? ⟨g2, 0, none⟩ = some (.slice (some ⟨bw, offw, none⟩) l cw)) :
    Calls Try.prog 31 #[.pointer (some ⟨gR, 0, none⟩), .agg #[.int .i64 (f : Nat), .int .i64 (t : Nat)], .func (.func 35) #[] #[.pointer (some ⟨g2, 0, none⟩)]] w fun e w' => ∃ m : Nat, e = .returned (.int .i64 (m : Nat)) ∧ FirstAt f t (fun j => 0 ≤ compareBytes (stB b P j) (wt.take l)) m ∧ Below w.heap.size w w' := by
  have hbl := h.base.1
  have hlen := hP.len
  refine (seek_any 35 g2 gR gp kb k bb off n c f t v3 P Bg w (fun p => decide (0 ≤ compareBytes (b.drop p) (wt.take l))) (enters_of Try.func35 (by kernel_rfl) rfl) h.rows hn h.base.2.1 (places_lt hP hbl) hft htn (h.test2 hl hc) (fun i j h1 h2 h3 h4 => ?_)).mono ?_
  · rw [decide_eq_true_iff] at h4 ⊢
    have h5 := ord_le hP h2 (by omega : j < P.length)
    have h6 := cmpB_swap (b.drop (P.getD i 0)) (wt.take l)
    have h7 := cmpB_swap (b.drop (P.getD j 0)) (wt.take l)
    have h8 : compareBytes (wt.take l) (b.drop (P.getD j 0)) ≤ 0 := cmpB_trans (b := b.drop (P.getD i 0)) (by omega) h5
    omega
  · rintro e w' ⟨m, rfl, hF, hb⟩
    exact ⟨m, rfl, ⟨hF.1, hF.2.1, fun j h1 h2 => by rw [← hF.2.2 j h1 h2]; show _ ↔ decide (0 ≤ compareBytes (stB b P j) (wt.take l)) = true; rw [decide_eq_true_iff]⟩, hb⟩
/-- The third search: behind all that begin with the row. -/
theorem seek3_any {w : World} {gR n c gp kb k bb off g1 bw offw nw cw f0 f t g2 l : Nat} {v3 : Value} {P : List Nat} {Bg : List UInt8 → Option (Nat × Nat)} {b wt : List UInt8} (h : LongW w gR n c gp kb k bb off g1 bw offw nw cw v3 P Bg b wt) (hP : InOrd b P) (hn : n ≤ 400000) (hft : f ≤ t) (htn : t ≤ n) (hl : l ≤ nw) (hc : w.cell? ⟨g2, 0, none⟩ = some (.slice (some ⟨bw, offw, none⟩) l cw)) (hF : FirstAt f0 t (fun j => 0 ≤ compareBytes (stB b P j) (wt.take l)) f) :
    Calls Try.prog 31 #[.pointer (some ⟨gR, 0, none⟩), .agg #[.int .i64 (f : Nat), .int .i64 (t : Nat)], .func (.func 36) #[] #[.pointer (some ⟨g2, 0, none⟩)]] w fun e w' => ∃ m : Nat, e = .returned (.int .i64 (m : Nat)) ∧ FirstAt f t (fun j => ¬ wt.take l <+: stB b P j) m ∧ Below w.heap.size w w' := by
  have hbl := h.base.1
  have hlen := hP.len
  refine (seek_any 36 g2 gR gp kb k bb off n c f t v3 P Bg w (fun p => !decide (wt.take l <+: b.drop p)) (enters_of Try.func36 (by kernel_rfl) rfl) h.rows hn h.base.2.1 (places_lt hP hbl) hft htn (h.test3 hl hc) (fun i j h1 h2 h3 h4 => ?_)).mono ?_
  · have h5 := ord_le hP h2 (by omega : j < P.length)
    have h6 : ¬ wt.take l <+: stB b P i := fun hp => by
      have h9 : decide (wt.take l <+: b.drop (P.getD i 0)) = true := decide_eq_true hp
      have h10 : (!decide (wt.take l <+: b.drop (P.getD i 0))) = true := h4
      rw [h9] at h10; cases h10
    have h7 : ¬ wt.take l <+: stB b P j := fun hp => h6 (by
      have h8 := (hF.2.2 i (by have := hF.1; omega) (by omega)).2 h1
      have h9 := cmpB_swap (stB b P i) (wt.take l)
      exact prefix_between (List.prefix_refl _) hp (by omega) h5)
    have h8 : decide (wt.take l <+: b.drop (P.getD j 0)) = false := decide_eq_false h7
    show (!decide (wt.take l <+: b.drop (P.getD j 0))) = true
    rw [h8]; rfl
  · rintro e w' ⟨m, rfl, hF, hb⟩
    refine ⟨m, rfl, ⟨hF.1, hF.2.1, fun j h1 h2 => ?_⟩, hb⟩
    rw [← hF.2.2 j h1 h2]
    show _ ↔ (!decide (wt.take l <+: stB b P j)) = true
    by_cases hp : wt.take l <+: stB b P j
    · simp [hp]
    · simp [hp]
set_option maxRecDepth 100000 in
set_option maxHeartbeats 8000000 in
theorem longest_any (lo0 gR n c nw cw : Nat) (a aw : Option Addr) (b wt : List UInt8) (w : World) (hO : RowsOf w lo0 b a n c gR) (hB : Bytes w a n c b) (hW : Bytes w aw nw cw wt) (hn : n ≤ 400000) (hnw : nw ≤ 400000) :
    Calls Try.prog 20 #[.pointer (some ⟨gR, 0, none⟩), .slice aw nw cw] w fun e w' => ∃ p l : Nat, e = .returned (.tuple #[.int .i64 (p : Nat), .int .i64 (l : Nat)]) ∧ ((8 ≤ l ∧ LongIs b wt p l) ∨ (p = 0 ∧ l = 0 ∧ ∀ q, q < b.length → lcpF (b.drop q) wt < 8)) ∧ Below w.heap.size w w' := by
  obtain ⟨gp, kb, k, v3, P, Bg, hR, hP, hBg, _, htree⟩ := hO
  obtain ⟨w1, hw1⟩ : ∃ W, w.alloc (.cells #[.slice aw nw cw] 22) = W := ⟨_, rfl⟩
  have b1 : Below w.heap.size w w1 := hw1 ▸ (Below.refl _ _).alloc (Nat.le_refl _) _
  have e1 : w1.heap[w.heap.size]? = some (.cells #[.slice aw nw cw] 22 (0, 0)) := hw1 ▸ heap_alloc_new w _
  have d0 : w1.cell? ⟨w.heap.size, 0, none⟩ = some (.slice aw nw cw) := by rw [cell_of_row _ _ _ _ _ _ e1]; rfl
  have hwl := hW.1
  have hbl := hB.1
  have HB1 := Lib.hid b1
  by_cases h8 : (nw : Int) < 8
  · have hno : Hid (∀ q, q < b.length → lcpF (b.drop q) wt < 8) := Lib.hid (fun q hq => by have := lcp_le_right (b.drop q) wt; omega)
    clear hR hP hBg htree hB hW b1 e1
    go_enter Try.func20, Try.ntmps20
    go_wp2
    go_ret2
    exact ⟨0, 0, rfl, .inr ⟨rfl, rfl, hno.out⟩, HB1.out⟩
  · obtain ⟨bw, offw, rfl⟩ := bsome hW (by have := hW.2.1; omega)
    obtain ⟨r, hr⟩ : ∃ r, wt.take 8 = r := ⟨_, rfl⟩
    have hw8 : 8 ≤ wt.length := by omega
    have HR8 : Hid (r.length = 8) := Lib.hid (by rw [← hr, List.length_take]; exact Nat.min_eq_left hw8)
    have HN : Hid (n ≤ 400000 ∧ nw ≤ 400000 ∧ 8 ≤ nw ∧ b.length = n ∧ wt.length = nw ∧ nw ≤ cw) := Lib.hid ⟨hn, hnw, by omega, hbl, hwl, hW.2.1⟩
    have HP := Lib.hid hP
    have HRE := Lib.hid hr
    have HBG := Lib.hid hBg
    cases hbg : Bg r with
    | none =>
      have hno : Hid (∀ q, q < b.length → lcpF (b.drop q) wt < 8) := Lib.hid (none_of_begin hP hBg (by omega) (by rw [hr]; exact hbg))
      have HS7 : Hid ((Bg r).getD (0, 0) = (0, 0)) := Lib.hid (by rw [hbg]; rfl)
      have HQ7 : Hid ((Bg r).isSome = false) := Lib.hid (by rw [hbg]; rfl)
      have HRa : Hid (RowsAt w1.drew gR a n c gp kb k v3 P Bg) := Lib.hid ((hR.below b1).keep (Nat.le_refl _) rfl rfl rfl)
      have HWa : Hid (Bytes w1.drew (some ⟨bw, offw, none⟩) nw cw wt) := Lib.hid ((hW.below b1).below (Below.refl _ _).drew)
      have HD : Hid (w1.drew.cell? ⟨w.heap.size, 0, none⟩ = some (.slice (some ⟨bw, offw, none⟩) nw cw)) := Lib.hid d0
      have HBa : Hid (Below w.heap.size w w1.drew) := Lib.hid b1.drew
      clear hR hP hBg htree hB hW b1 e1 hbg hr
      go_enter Try.func20, Try.ntmps20
      go_wp2
      refine wp_region_held_drew (S := fun W => W.cell? ⟨gR, 2, none⟩ = some (.map (some kb)) ∧ W.cell? ⟨w.heap.size, 0, none⟩ = some (.slice (some ⟨bw, offw, none⟩) nw cw) ∧ MapAt W kb k Bg ∧ Bytes W (some ⟨bw, offw, none⟩) nw cw wt) (by kernel_rfl) ⟨HRa.out.c2, HD.out, HRa.out.mp, HWa.out⟩ (fun hHeld => ?_)
      generalize w1.drew = w2 at HRa HWa HD HBa hHeld ⊢
      refine wpAnyH_take (i := 0) (oi := ⟨some 18, .move (.tmp 0), _, _, _, _⟩) (v := (.pointer (some ⟨gR, 0, none⟩))) rfl (by kernel_rfl) (by kernel_rfl) (by kernel_rfl) (fun _ _ _ h => h) (Or.inl ⟨by rfl, fun W hW => by go_simp⟩) (by assumption) ?_
      simp only [Act.put, List.setIfInBounds_toArray, List.set_cons_zero, List.set_cons_succ]
      refine wpAnyH_take (i := 1) (oi := ⟨some 19, .nilCheck (.tmp 18), _, _, _, _⟩) (v := (.pointer (some ⟨gR, 0, none⟩))) rfl (by kernel_rfl) (by kernel_rfl) (by kernel_rfl) (fun _ _ _ h => h) (Or.inl ⟨by rfl, fun W hW => by go_simp⟩) (by assumption) ?_
      simp only [Act.put, List.setIfInBounds_toArray, List.set_cons_zero, List.set_cons_succ]
      refine wpAnyH_take (i := 2) (oi := ⟨some 20, .fieldAddr 57 (.tmp 19) 2, _, _, _, _⟩) (v := (.pointer (some ⟨gR, 2, none⟩))) rfl (by kernel_rfl) (by kernel_rfl) (by kernel_rfl) (fun _ _ _ h => h) (Or.inl ⟨by rfl, fun W hW => by go_simp⟩) (by assumption) ?_
      simp only [Act.put, List.setIfInBounds_toArray, List.set_cons_zero, List.set_cons_succ]
      refine wpAnyH_take (i := 3) (oi := ⟨some 21, .load 55 (.tmp 20), _, _, _, _⟩) (v := (.map (some kb))) rfl (by kernel_rfl) (by kernel_rfl) (by kernel_rfl) (fun _ _ _ h => h) (Or.inl ⟨by rfl, fun W hW => by have hcell := hW.1; go_simp⟩) (by assumption) ?_
      simp only [Act.put, List.setIfInBounds_toArray, List.set_cons_zero, List.set_cons_succ]
      refine wpAnyH_take (i := 4) (oi := ⟨some 22, .load 22 (.tmp 3), _, _, _, _⟩) (v := (.slice (some ⟨bw, offw, none⟩) nw cw)) rfl (by kernel_rfl) (by kernel_rfl) (by kernel_rfl) (fun _ _ _ h => h) (Or.inl ⟨by rfl, fun W hW => by have hcell := hW.2.1; go_simp⟩) (by assumption) ?_
      simp only [Act.put, List.setIfInBounds_toArray, List.set_cons_zero, List.set_cons_succ]
      refine wpAnyH_take (i := 5) (oi := ⟨some 23, .sliceToArrayPointer 58 (.tmp 22), _, _, _, _⟩) (v := (.pointer (some ⟨bw, offw, none⟩))) rfl (by kernel_rfl) (by kernel_rfl) (by kernel_rfl) (fun _ _ _ h => h) (Or.inl ⟨by rfl, fun W hW => exec_arrP (.tmp 22) rfl bw offw nw cw rfl HN.out.2.2.1⟩) (by assumption) ?_
      simp only [Act.put, List.setIfInBounds_toArray, List.set_cons_zero, List.set_cons_succ]
      refine wpAnyH_take (i := 6) (oi := ⟨some 24, .load 58 (.tmp 23), _, _, _, _⟩) (v := (.agg (rowC r))) rfl (by kernel_rfl) (by kernel_rfl) (by kernel_rfl) (fun _ _ _ h => h) (Or.inl ⟨by rfl, fun W hW => exec_row (.tmp 23) rfl bw offw r HR8.out rfl (HRE.out ▸ bytes_row hW.2.2.2 HN.out.2.2.1)⟩) (by assumption) ?_
      simp only [Act.put, List.setIfInBounds_toArray, List.set_cons_zero, List.set_cons_succ]
      refine wpAnyH_take (i := 7) (oi := ⟨some 25, .lookup 55 (.tmp 21) (.tmp 24) true, _, _, _, _⟩) (v := (.tuple #[(.agg (spC 0 0)), (.bool false)])) rfl (by kernel_rfl) (by kernel_rfl) (by kernel_rfl) (fun _ _ _ h => h) (Or.inl ⟨by rfl, fun W hW => exec_look hW.2.2.1 (.tmp 21) (.tmp 24) rfl rfl r HR8.out rfl (0, 0) false HS7.out HQ7.out⟩) (by assumption) ?_
      simp only [Act.put, List.setIfInBounds_toArray, List.set_cons_zero, List.set_cons_succ]
      refine wpAnyH_take (i := 8) (oi := ⟨some 17, .move (.tmp 25), _, _, _, _⟩) (v := (.tuple #[(.agg (spC 0 0)), (.bool false)])) rfl (by kernel_rfl) (by kernel_rfl) (by kernel_rfl) (fun _ _ _ h => h) (Or.inl ⟨by rfl, fun W hW => by go_simp⟩) (by assumption) ?_
      simp only [Act.put, List.setIfInBounds_toArray, List.set_cons_zero, List.set_cons_succ]
      refine wpAnyH_take (i := 9) (oi := ⟨some 26, .extract (.tmp 17) 0, _, _, _, _⟩) (v := (.agg (spC 0 0))) rfl (by kernel_rfl) (by kernel_rfl) (by kernel_rfl) (fun _ _ _ h => h) (Or.inl ⟨by rfl, fun W hW => by go_simp⟩) (by assumption) ?_
      simp only [Act.put, List.setIfInBounds_toArray, List.set_cons_zero, List.set_cons_succ]
      refine wpAnyH_take (i := 10) (oi := ⟨some 27, .extract (.tmp 17) 1, _, _, _, _⟩) (v := (.bool false)) rfl (by kernel_rfl) (by kernel_rfl) (by kernel_rfl) (fun _ _ _ h => h) (Or.inl ⟨by rfl, fun W hW => by go_simp⟩) (by assumption) ?_
      simp only [Act.put, List.setIfInBounds_toArray, List.set_cons_zero, List.set_cons_succ]
      refine wpAnyH_ready (rs := [11]) (by kernel_rfl) (by simp) ?_
      refine AllReadyH.cons (o := ⟨some 6, .alloc 60, _, _, _, _⟩) rfl (fun K hK => ?_) AllReadyH.nil
      refine wready (wp_allocR SpanT [.int .i64 0, .int .i64 0] rfl (fun W => by kernel_rfl) ?_)
      intro w3 ha hb hs
      have HB23 := Lib.hid hb
      have HRb := Lib.hid (HRa.out.below hb)
      have HWb := Lib.hid (HWa.out.below hb)
      have HDb := Lib.hid ((hb.cell (World.block_lt_of_cell? _ _ HD.out)).trans HD.out)
      have HBb := Lib.hid (HBa.out.trans (hb.mono HBa.out.size))
      have HYb := Lib.hid ha
      clear ha hb hs
      refine hK.out _ _ ⟨HRb.out.c2, HDb.out, HRb.out.mp, HWb.out⟩ (fun hHeld => ?_)
      clear hK K
      refine wpAnyH_ready (rs := [12]) (by kernel_rfl) (by simp) ?_
      refine AllReadyH.cons (o := ⟨none, .store 60 (.tmp 6) (.tmp 26), _, _, _, _⟩) rfl (fun K hK => ?_) AllReadyH.nil
      refine wready (wp_storeR SpanT (.tmp 6) (.tmp 26) rfl w2.heap.size SpanT [.int .i64 0, .int .i64 0] [.int .i64 (0 : Nat), .int .i64 (0 : Nat)] rfl rfl HYb.out rfl (by kernel_rfl) (fun v hv => by simp only [List.mem_cons, List.not_mem_nil, or_false] at hv; rcases hv with rfl | rfl <;> rfl) ?_)
      intro w4 ha hg hs
      have hl1 := HRa.out.lt
      have hl2 := HRa.out.pl.2.1
      have hl3 := HRa.out.mp.lt
      have hl4 := World.block_lt_of_cell? _ _ HD.out
      have HRc := Lib.hid (HRb.out.grown hg (Nat.ne_of_lt hl1) (Nat.ne_of_lt hl2) (Nat.ne_of_lt hl3))
      have hbc := HBb.out.grown hg HBb.out.size (fun k hk => by cases hk; have := HBa.out.size; omega)
      have HB24 : Hid (Below w2.heap.size w2 w4) := Lib.hid (HB23.out.grown hg HB23.out.size (fun k hk => by cases hk; exact Nat.le_refl _))
      have HWc := Lib.hid (HWa.out.below HB24.out)
      have HDc := Lib.hid ((HB24.out.cell hl4).trans HD.out)
      have HBc := Lib.hid hbc
      have HYc := Lib.hid ha
      clear ha hg hs hl1 hl2 hl3 hl4 hbc
      refine hK.out _ _ ⟨HRc.out.c2, HDc.out, HRc.out.mp, HWc.out⟩ (fun hHeld => ?_)
      clear hK K
      refine wpAnyH_take (i := 13) (oi := ⟨some 7, .assign (.tmp 27), _, _, _, _⟩) (v := (.bool false)) rfl (by kernel_rfl) (by kernel_rfl) (by kernel_rfl) (fun _ _ _ h => h) (Or.inl ⟨by rfl, fun W hW => by go_simp⟩) (by assumption) ?_
      simp only [Act.put, List.setIfInBounds_toArray, List.set_cons_zero, List.set_cons_succ]
      refine wpAnyH_done (by kernel_rfl) ?_ _
      clear hHeld
      go_wp2
      go_ret2
      exact ⟨0, 0, rfl, .inr ⟨rfl, rfl, hno.out⟩, HBc.out⟩
    | some s0 =>
      obtain ⟨f, t⟩ := s0
      have HS7 : Hid ((Bg r).getD (0, 0) = (f, t)) := Lib.hid (by rw [hbg]; rfl)
      have HQ7 : Hid ((Bg r).isSome = true) := Lib.hid (by rw [hbg]; rfl)
      have hft := hBg.all hP HR8.out hbg
      have HFT : Hid (f < t ∧ t ≤ n ∧ Bg (wt.take 8) = some (f, t)) := Lib.hid ⟨hft.1, by have h1 : t ≤ P.length := hft.2.1; rw [hP.len, hbl] at h1; exact h1, by rw [hr]; exact hbg⟩
      obtain ⟨bb, off, rfl⟩ := bsome hB (by have := HFT.out; have := hB.2.1; omega)
      obtain ⟨gl, cl, T, hv3, hTI, hTD⟩ : ∃ gl cl T, v3 = .slice (some ⟨gl, 0, none⟩) (2 * n) cl ∧ IntsAt w gl (2 * n) T ∧ TreeDone n P T 1 := by
        rcases htree with h0 | ⟨gl, cl, T, h1, _, h2, h3⟩
        · have := HFT.out; omega
        · exact ⟨gl, cl, T, h1, h2, h3⟩
      have HTI := Lib.hid hTI
      have HTD := Lib.hid hTD
      subst hv3
      have HL : Hid (LongW w1.drew gR n c gp kb k bb off w.heap.size bw offw nw cw (.slice (some ⟨gl, 0, none⟩) (2 * n) cl) P Bg b wt) := Lib.hid (LongW.drew ⟨hR.below b1, hB.below b1, hW.below b1, d0⟩)
      have HRa : Hid (RowsAt w1.drew gR (some ⟨bb, off, none⟩) n c gp kb k (.slice (some ⟨gl, 0, none⟩) (2 * n) cl) P Bg) := Lib.hid HL.out.rows
      have HWa : Hid (Bytes w1.drew (some ⟨bw, offw, none⟩) nw cw wt) := Lib.hid HL.out.want
      have HD : Hid (w1.drew.cell? ⟨w.heap.size, 0, none⟩ = some (.slice (some ⟨bw, offw, none⟩) nw cw)) := Lib.hid d0
      have HBa : Hid (Below w.heap.size w w1.drew) := Lib.hid b1.drew
      have hmf : ∀ (fn : Fn) (first cap : Array Value) (w : World), (Instr.makeFunc fn first cap).run Try.prog w = .ok (.func fn first cap) w := fun _ _ _ _ => rfl
      clear hR hP hBg htree hB hW b1 e1 hbg hr hft hTI hTD
      go_enter Try.func20, Try.ntmps20
      go_wp2
      refine wp_region_held_drew (S := fun W => W.cell? ⟨gR, 2, none⟩ = some (.map (some kb)) ∧ W.cell? ⟨w.heap.size, 0, none⟩ = some (.slice (some ⟨bw, offw, none⟩) nw cw) ∧ MapAt W kb k Bg ∧ Bytes W (some ⟨bw, offw, none⟩) nw cw wt) (by kernel_rfl) ⟨HRa.out.c2, HD.out, HRa.out.mp, HWa.out⟩ (fun hHeld => ?_)
      generalize w1.drew = w2 at HRa HWa HD HBa hHeld HL ⊢
      refine wpAnyH_take (i := 0) (oi := ⟨some 18, .move (.tmp 0), _, _, _, _⟩) (v := (.pointer (some ⟨gR, 0, none⟩))) rfl (by kernel_rfl) (by kernel_rfl) (by kernel_rfl) (fun _ _ _ h => h) (Or.inl ⟨by rfl, fun W hW => by go_simp⟩) (by assumption) ?_
      simp only [Act.put, List.setIfInBounds_toArray, List.set_cons_zero, List.set_cons_succ]
      refine wpAnyH_take (i := 1) (oi := ⟨some 19, .nilCheck (.tmp 18), _, _, _, _⟩) (v := (.pointer (some ⟨gR, 0, none⟩))) rfl (by kernel_rfl) (by kernel_rfl) (by kernel_rfl) (fun _ _ _ h => h) (Or.inl ⟨by rfl, fun W hW => by go_simp⟩) (by assumption) ?_
      simp only [Act.put, List.setIfInBounds_toArray, List.set_cons_zero, List.set_cons_succ]
      refine wpAnyH_take (i := 2) (oi := ⟨some 20, .fieldAddr 57 (.tmp 19) 2, _, _, _, _⟩) (v := (.pointer (some ⟨gR, 2, none⟩))) rfl (by kernel_rfl) (by kernel_rfl) (by kernel_rfl) (fun _ _ _ h => h) (Or.inl ⟨by rfl, fun W hW => by go_simp⟩) (by assumption) ?_
      simp only [Act.put, List.setIfInBounds_toArray, List.set_cons_zero, List.set_cons_succ]
      refine wpAnyH_take (i := 3) (oi := ⟨some 21, .load 55 (.tmp 20), _, _, _, _⟩) (v := (.map (some kb))) rfl (by kernel_rfl) (by kernel_rfl) (by kernel_rfl) (fun _ _ _ h => h) (Or.inl ⟨by rfl, fun W hW => by have hcell := hW.1; go_simp⟩) (by assumption) ?_
      simp only [Act.put, List.setIfInBounds_toArray, List.set_cons_zero, List.set_cons_succ]
      refine wpAnyH_take (i := 4) (oi := ⟨some 22, .load 22 (.tmp 3), _, _, _, _⟩) (v := (.slice (some ⟨bw, offw, none⟩) nw cw)) rfl (by kernel_rfl) (by kernel_rfl) (by kernel_rfl) (fun _ _ _ h => h) (Or.inl ⟨by rfl, fun W hW => by have hcell := hW.2.1; go_simp⟩) (by assumption) ?_
      simp only [Act.put, List.setIfInBounds_toArray, List.set_cons_zero, List.set_cons_succ]
      refine wpAnyH_take (i := 5) (oi := ⟨some 23, .sliceToArrayPointer 58 (.tmp 22), _, _, _, _⟩) (v := (.pointer (some ⟨bw, offw, none⟩))) rfl (by kernel_rfl) (by kernel_rfl) (by kernel_rfl) (fun _ _ _ h => h) (Or.inl ⟨by rfl, fun W hW => exec_arrP (.tmp 22) rfl bw offw nw cw rfl HN.out.2.2.1⟩) (by assumption) ?_
      simp only [Act.put, List.setIfInBounds_toArray, List.set_cons_zero, List.set_cons_succ]
      refine wpAnyH_take (i := 6) (oi := ⟨some 24, .load 58 (.tmp 23), _, _, _, _⟩) (v := (.agg (rowC r))) rfl (by kernel_rfl) (by kernel_rfl) (by kernel_rfl) (fun _ _ _ h => h) (Or.inl ⟨by rfl, fun W hW => exec_row (.tmp 23) rfl bw offw r HR8.out rfl (HRE.out ▸ bytes_row hW.2.2.2 HN.out.2.2.1)⟩) (by assumption) ?_
      simp only [Act.put, List.setIfInBounds_toArray, List.set_cons_zero, List.set_cons_succ]
      refine wpAnyH_take (i := 7) (oi := ⟨some 25, .lookup 55 (.tmp 21) (.tmp 24) true, _, _, _, _⟩) (v := (.tuple #[(.agg (spC f t)), (.bool true)])) rfl (by kernel_rfl) (by kernel_rfl) (by kernel_rfl) (fun _ _ _ h => h) (Or.inl ⟨by rfl, fun W hW => exec_look hW.2.2.1 (.tmp 21) (.tmp 24) rfl rfl r HR8.out rfl (f, t) true HS7.out HQ7.out⟩) (by assumption) ?_
      simp only [Act.put, List.setIfInBounds_toArray, List.set_cons_zero, List.set_cons_succ]
      refine wpAnyH_take (i := 8) (oi := ⟨some 17, .move (.tmp 25), _, _, _, _⟩) (v := (.tuple #[(.agg (spC f t)), (.bool true)])) rfl (by kernel_rfl) (by kernel_rfl) (by kernel_rfl) (fun _ _ _ h => h) (Or.inl ⟨by rfl, fun W hW => by go_simp⟩) (by assumption) ?_
      simp only [Act.put, List.setIfInBounds_toArray, List.set_cons_zero, List.set_cons_succ]
      refine wpAnyH_take (i := 9) (oi := ⟨some 26, .extract (.tmp 17) 0, _, _, _, _⟩) (v := (.agg (spC f t))) rfl (by kernel_rfl) (by kernel_rfl) (by kernel_rfl) (fun _ _ _ h => h) (Or.inl ⟨by rfl, fun W hW => by go_simp⟩) (by assumption) ?_
      simp only [Act.put, List.setIfInBounds_toArray, List.set_cons_zero, List.set_cons_succ]
      refine wpAnyH_take (i := 10) (oi := ⟨some 27, .extract (.tmp 17) 1, _, _, _, _⟩) (v := (.bool true)) rfl (by kernel_rfl) (by kernel_rfl) (by kernel_rfl) (fun _ _ _ h => h) (Or.inl ⟨by rfl, fun W hW => by go_simp⟩) (by assumption) ?_
      simp only [Act.put, List.setIfInBounds_toArray, List.set_cons_zero, List.set_cons_succ]
      refine wpAnyH_ready (rs := [11]) (by kernel_rfl) (by simp) ?_
      refine AllReadyH.cons (o := ⟨some 6, .alloc 60, _, _, _, _⟩) rfl (fun K hK => ?_) AllReadyH.nil
      refine wready (wp_allocR SpanT [.int .i64 0, .int .i64 0] rfl (fun W => by kernel_rfl) ?_)
      intro w3 ha hb hs
      have HB23 := Lib.hid hb
      have HRb := Lib.hid (HRa.out.below hb)
      have HWb := Lib.hid (HWa.out.below hb)
      have HDb := Lib.hid ((hb.cell (World.block_lt_of_cell? _ _ HD.out)).trans HD.out)
      have HBb := Lib.hid (HBa.out.trans (hb.mono HBa.out.size))
      have HYb := Lib.hid ha
      have HLb := Lib.hid (HL.out.below hb)
      clear ha hb hs
      refine hK.out _ _ ⟨HRb.out.c2, HDb.out, HRb.out.mp, HWb.out⟩ (fun hHeld => ?_)
      clear hK K
      refine wpAnyH_ready (rs := [12]) (by kernel_rfl) (by simp) ?_
      refine AllReadyH.cons (o := ⟨none, .store 60 (.tmp 6) (.tmp 26), _, _, _, _⟩) rfl (fun K hK => ?_) AllReadyH.nil
      refine wready (wp_storeR SpanT (.tmp 6) (.tmp 26) rfl w2.heap.size SpanT [.int .i64 0, .int .i64 0] [.int .i64 (f : Nat), .int .i64 (t : Nat)] rfl rfl HYb.out rfl (by kernel_rfl) (fun v hv => by simp only [List.mem_cons, List.not_mem_nil, or_false] at hv; rcases hv with rfl | rfl <;> rfl) ?_)
      intro w4 ha hg hs
      have hl1 := HRa.out.lt
      have hl2 := HRa.out.pl.2.1
      have hl3 := HRa.out.mp.lt
      have hl4 := World.block_lt_of_cell? _ _ HD.out
      have HRc := Lib.hid (HRb.out.grown hg (Nat.ne_of_lt hl1) (Nat.ne_of_lt hl2) (Nat.ne_of_lt hl3))
      have hbc := HBb.out.grown hg HBb.out.size (fun k hk => by cases hk; have := HBa.out.size; omega)
      have HB24 : Hid (Below w2.heap.size w2 w4) := Lib.hid (HB23.out.grown hg HB23.out.size (fun k hk => by cases hk; exact Nat.le_refl _))
      have HWc := Lib.hid (HWa.out.below HB24.out)
      have HDc := Lib.hid ((HB24.out.cell hl4).trans HD.out)
      have HBc := Lib.hid hbc
      have HYc := Lib.hid ha
      have HLc := Lib.hid (HL.out.below HB24.out)
      clear ha hg hs hl1 hl2 hl3 hl4 hbc
      refine hK.out _ _ ⟨HRc.out.c2, HDc.out, HRc.out.mp, HWc.out⟩ (fun hHeld => ?_)
      clear hK K
      refine wpAnyH_take (i := 13) (oi := ⟨some 7, .assign (.tmp 27), _, _, _, _⟩) (v := (.bool true)) rfl (by kernel_rfl) (by kernel_rfl) (by kernel_rfl) (fun _ _ _ h => h) (Or.inl ⟨by rfl, fun W hW => by go_simp⟩) (by assumption) ?_
      simp only [Act.put, List.setIfInBounds_toArray, List.set_cons_zero, List.set_cons_succ]
      refine wpAnyH_done (by kernel_rfl) ?_ _
      clear hHeld
      generalize w2.heap.size = g6 at HYc ⊢
      go_wp2_with (first | ((with_reducible show wpList _ _ _ (⟨some 31, _, _, _, _, _⟩ :: _) _ _); go_must (refine wl_exD rfl (exec_spanL _ rfl g6 f t rfl HYc.out) ?_)) | (go_at_call 31; go_must (refine (seek1_any HLc.out HP.out HN.out.1 (Nat.le_of_lt HFT.out.1) HFT.out.2.1).mono ?_; rintro e w5 ⟨m1, rfl, hF, hb⟩; have HF1 := Lib.hid hF; have HL5 := Lib.hid (HLc.out.below hb).drew; have HB5 := Lib.hid (HBc.out.trans (hb.mono HBc.out.size)).drew; have HY5 := Lib.hid (HYc.out.below hb).drew; have hlo : f ≤ m1 ∧ m1 ≤ t := ⟨hF.1, hF.2.1⟩; clear hF hb)))
      have hlo := (⟨HF1.out.1, HF1.out.2.1⟩ : f ≤ m1 ∧ m1 ≤ t)
      have hn := HN.out
      have hft := HFT.out
      obtain ⟨lo, hlo1⟩ : ∃ x, max (m1 - 1) f = x := ⟨_, rfl⟩
      obtain ⟨hi, hhi1⟩ : ∃ x, min (m1 + 1) t = x := ⟨_, rfl⟩
      obtain ⟨m2, hm2⟩ : ∃ x, m1 + 1 = x := ⟨_, rfl⟩
      obtain ⟨ln, hln⟩ : ∃ x, hi - lo = x := ⟨_, rfl⟩
      obtain ⟨lc, hlc⟩ : ∃ x, n - lo = x := ⟨_, rfl⟩
      have W1 : IntKind.i64.wrap ((m1 : Int) - 1) = (m1 : Int) - 1 := IntWalk.i64_in _ (by omega)
      have W2 : IntKind.i64.wrap ((m1 : Int) + 1) = (m2 : Int) := by rw [IntWalk.i64_in _ (by omega)]; omega
      have M1 : max ((m1 : Int) - 1) (f : Int) = (lo : Int) := by omega
      have M2 : min (m2 : Int) (t : Int) = (hi : Int) := by omega
      have hL : Hid (lo ≤ hi ∧ hi ≤ n ∧ f ≤ lo ∧ hi ≤ t ∧ lo + ln = hi ∧ max (m1 - 1) f = lo ∧ min (m1 + 1) t = hi ∧ lo < hi) := Lib.hid ⟨by omega, by omega, by omega, by omega, by omega, hlo1, hhi1, by omega⟩
      have hi1 : (lo : Int) ≤ (hi : Int) := by omega
      have hi2 : (hi : Int) ≤ (n : Int) := by omega
      have hi0 : (0 : Int) ≤ (lo : Int) := by omega
      have hnl1 : ¬ n = lo := by omega
      have hnl2 : ¬ lo = n := by omega
      clear hlo1 hhi1 hm2
      refine wp_region_held_drew (S := fun W => W.cell? ⟨gR, 1, none⟩ = some (.slice (some ⟨gp, 0, none⟩) n n) ∧ W.cell? ⟨g6, 0, none⟩ = some (.int .i64 (f : Nat)) ∧ W.cell? ⟨g6, 1, none⟩ = some (.int .i64 (t : Nat))) (by kernel_rfl) ⟨HL5.out.rows.c1, HY5.out.cell 0 rfl, HY5.out.cell 1 rfl⟩ (fun hHeld => ?_)
      generalize w5.drew = w6 at HL5 HY5 HB5 hHeld ⊢
      refine wpAnyH_take (i := 0) (oi := ⟨some 34, .move (.tmp 0), _, _, _, _⟩) (v := (.pointer (some ⟨gR, 0, none⟩))) rfl (by kernel_rfl) (by kernel_rfl) (by kernel_rfl) (fun _ _ _ h => h) (Or.inl ⟨by rfl, fun W hW => by go_simp⟩) (by assumption) ?_
      simp only [Act.put, List.setIfInBounds_toArray, List.set_cons_zero, List.set_cons_succ]
      refine wpAnyH_take (i := 1) (oi := ⟨some 35, .nilCheck (.tmp 34), _, _, _, _⟩) (v := (.pointer (some ⟨gR, 0, none⟩))) rfl (by kernel_rfl) (by kernel_rfl) (by kernel_rfl) (fun _ _ _ h => h) (Or.inl ⟨by rfl, fun W hW => by go_simp⟩) (by assumption) ?_
      simp only [Act.put, List.setIfInBounds_toArray, List.set_cons_zero, List.set_cons_succ]
      refine wpAnyH_take (i := 2) (oi := ⟨some 36, .fieldAddr 57 (.tmp 35) 1, _, _, _, _⟩) (v := (.pointer (some ⟨gR, 1, none⟩))) rfl (by kernel_rfl) (by kernel_rfl) (by kernel_rfl) (fun _ _ _ h => h) (Or.inl ⟨by rfl, fun W hW => by go_simp⟩) (by assumption) ?_
      simp only [Act.put, List.setIfInBounds_toArray, List.set_cons_zero, List.set_cons_succ]
      refine wpAnyH_take (i := 3) (oi := ⟨some 37, .load 53 (.tmp 36), _, _, _, _⟩) (v := (.slice (some ⟨gp, 0, none⟩) n n)) rfl (by kernel_rfl) (by kernel_rfl) (by kernel_rfl) (fun _ _ _ h => h) (Or.inl ⟨by rfl, fun W hW => by have hcell := hW.1; go_simp⟩) (by assumption) ?_
      simp only [Act.put, List.setIfInBounds_toArray, List.set_cons_zero, List.set_cons_succ]
      refine wpAnyH_take (i := 4) (oi := ⟨some 38, .move (.tmp 8), _, _, _, _⟩) (v := (.int .i64 (m1 : Nat))) rfl (by kernel_rfl) (by kernel_rfl) (by kernel_rfl) (fun _ _ _ h => h) (Or.inl ⟨by rfl, fun W hW => by go_simp⟩) (by assumption) ?_
      simp only [Act.put, List.setIfInBounds_toArray, List.set_cons_zero, List.set_cons_succ]
      refine wpAnyH_take (i := 5) (oi := ⟨some 39, .binOp .sub 3 (.tmp 38) (.const (.int .i64 1)) 3, _, _, _, _⟩) (v := (.int .i64 ((m1 : Int) - 1))) rfl (by kernel_rfl) (by kernel_rfl) (by kernel_rfl) (fun _ _ _ h => h) (Or.inl ⟨by rfl, fun W hW => by go_simp⟩) (by assumption) ?_
      simp only [Act.put, List.setIfInBounds_toArray, List.set_cons_zero, List.set_cons_succ]
      refine wpAnyH_take (i := 6) (oi := ⟨some 40, .fieldAddr 60 (.tmp 6) 0, _, _, _, _⟩) (v := (.pointer (some ⟨g6, 0, none⟩))) rfl (by kernel_rfl) (by kernel_rfl) (by kernel_rfl) (fun _ _ _ h => h) (Or.inl ⟨by rfl, fun W hW => by go_simp⟩) (by assumption) ?_
      simp only [Act.put, List.setIfInBounds_toArray, List.set_cons_zero, List.set_cons_succ]
      refine wpAnyH_take (i := 7) (oi := ⟨some 41, .load 3 (.tmp 40), _, _, _, _⟩) (v := (.int .i64 (f : Nat))) rfl (by kernel_rfl) (by kernel_rfl) (by kernel_rfl) (fun _ _ _ h => h) (Or.inl ⟨by rfl, fun W hW => by have hcell := hW.2.1; go_simp⟩) (by assumption) ?_
      simp only [Act.put, List.setIfInBounds_toArray, List.set_cons_zero, List.set_cons_succ]
      refine wpAnyH_take (i := 8) (oi := ⟨some 42, .call { callee := .builtin .max, args := #[(.tmp 39), (.tmp 41)], argTypes := #[3, 3] }, _, _, _, _⟩) (v := (.int .i64 (lo : Nat))) rfl (by kernel_rfl) (by kernel_rfl) (by kernel_rfl) (fun _ _ _ h => h) (Or.inl ⟨by rfl, fun W hW => by go_simp⟩) (by assumption) ?_
      simp only [Act.put, List.setIfInBounds_toArray, List.set_cons_zero, List.set_cons_succ]
      refine wpAnyH_take (i := 9) (oi := ⟨some 43, .move (.tmp 8), _, _, _, _⟩) (v := (.int .i64 (m1 : Nat))) rfl (by kernel_rfl) (by kernel_rfl) (by kernel_rfl) (fun _ _ _ h => h) (Or.inl ⟨by rfl, fun W hW => by go_simp⟩) (by assumption) ?_
      simp only [Act.put, List.setIfInBounds_toArray, List.set_cons_zero, List.set_cons_succ]
      refine wpAnyH_take (i := 10) (oi := ⟨some 44, .binOp .add 3 (.tmp 43) (.const (.int .i64 1)) 3, _, _, _, _⟩) (v := (.int .i64 (m2 : Nat))) rfl (by kernel_rfl) (by kernel_rfl) (by kernel_rfl) (fun _ _ _ h => h) (Or.inl ⟨by rfl, fun W hW => by go_simp⟩) (by assumption) ?_
      simp only [Act.put, List.setIfInBounds_toArray, List.set_cons_zero, List.set_cons_succ]
      refine wpAnyH_take (i := 11) (oi := ⟨some 45, .fieldAddr 60 (.tmp 6) 1, _, _, _, _⟩) (v := (.pointer (some ⟨g6, 1, none⟩))) rfl (by kernel_rfl) (by kernel_rfl) (by kernel_rfl) (fun _ _ _ h => h) (Or.inl ⟨by rfl, fun W hW => by go_simp⟩) (by assumption) ?_
      simp only [Act.put, List.setIfInBounds_toArray, List.set_cons_zero, List.set_cons_succ]
      refine wpAnyH_take (i := 12) (oi := ⟨some 46, .load 3 (.tmp 45), _, _, _, _⟩) (v := (.int .i64 (t : Nat))) rfl (by kernel_rfl) (by kernel_rfl) (by kernel_rfl) (fun _ _ _ h => h) (Or.inl ⟨by rfl, fun W hW => by have hcell := hW.2.2; go_simp⟩) (by assumption) ?_
      simp only [Act.put, List.setIfInBounds_toArray, List.set_cons_zero, List.set_cons_succ]
      refine wpAnyH_take (i := 13) (oi := ⟨some 47, .call { callee := .builtin .min, args := #[(.tmp 44), (.tmp 46)], argTypes := #[3, 3] }, _, _, _, _⟩) (v := (.int .i64 (hi : Nat))) rfl (by kernel_rfl) (by kernel_rfl) (by kernel_rfl) (fun _ _ _ h => h) (Or.inl ⟨by rfl, fun W hW => by go_simp⟩) (by assumption) ?_
      simp only [Act.put, List.setIfInBounds_toArray, List.set_cons_zero, List.set_cons_succ]
      refine wpAnyH_take (i := 14) (oi := ⟨some 48, .slice 53 (.tmp 37) (some (.tmp 42)) (some (.tmp 47)) none, _, _, _, _⟩) (v := (.slice (some ⟨gp, lo, none⟩) ln lc)) rfl (by kernel_rfl) (by kernel_rfl) (by kernel_rfl) (fun _ _ _ h => h) (Or.inl ⟨by rfl, fun W hW => by go_simp⟩) (by assumption) ?_
      simp only [Act.put, List.setIfInBounds_toArray, List.set_cons_zero, List.set_cons_succ]
      refine wpAnyH_take (i := 15) (oi := ⟨some 49, .call { callee := .builtin .len, args := #[(.tmp 48)], argTypes := #[53] }, _, _, _, _⟩) (v := (.int .i64 (ln : Nat))) rfl (by kernel_rfl) (by kernel_rfl) (by kernel_rfl) (fun _ _ _ h => h) (Or.inl ⟨by rfl, fun W hW => by go_simp⟩) (by assumption) ?_
      simp only [Act.put, List.setIfInBounds_toArray, List.set_cons_zero, List.set_cons_succ]
      refine wpAnyH_take (i := 16) (oi := ⟨some 50, .move (.const (.int .i64 0)), _, _, _, _⟩) (v := (.int .i64 0)) rfl (by kernel_rfl) (by kernel_rfl) (by kernel_rfl) (fun _ _ _ h => h) (Or.inl ⟨by rfl, fun W hW => by go_simp⟩) (by assumption) ?_
      simp only [Act.put, List.setIfInBounds_toArray, List.set_cons_zero, List.set_cons_succ]
      refine wpAnyH_done (by kernel_rfl) ?_ _
      clear hHeld hlo hn hft
      go_wp2
      go_loopg [5, 50] ln (fun g v5 v50 W => ∃ (i L : Nat), v5 = .int .i64 (L : Nat) ∧ v50 = .int .i64 (i : Nat) ∧ g + i = ln ∧ Hid (∀ j, lo ≤ j → j < lo + i → lcpF (stB b P j) wt ≤ L) ∧ Hid (L = 0 ∨ ∃ j, lo ≤ j ∧ j < lo + i ∧ lcpF (stB b P j) wt = L) ∧ Hid (LongW W gR n c gp kb k bb off w.heap.size bw offw nw cw (.slice (some ⟨gl, 0, none⟩) (2 * n) cl) P Bg b wt) ∧ Hid (RowAt W g6 SpanT [.int .i64 (f : Nat), .int .i64 (t : Nat)]) ∧ Hid (Below w.heap.size w W))
      case atStart => exact ⟨0, 0, rfl, rfl, rfl, Lib.hid (fun j h1 h2 => by omega), Lib.hid (.inl rfl), HL5, HY5, HB5⟩
      case round =>
        obtain ⟨i, L, rfl, rfl, hg, HA, HE, HL6, HY6, HB6⟩ := hrel
        have HG := Lib.hid hg
        by_cases hil : (i : Int) < (ln : Int)
        · have hl := hL.out
          have HIL := Lib.hid (show i < ln by omega)
          have hi0' : (0 : Int) ≤ (i : Int) := by omega
          obtain ⟨p, hp⟩ : ∃ p, P.getD (lo + i) 0 = p := ⟨_, rfl⟩
          have hpn : p < n := by rw [← hp]; exact places_lt HP.out HN.out.2.2.2.1 _ (by omega)
          have HPN := Lib.hid (Nat.le_of_lt hpn)
          have k1 : wr.cell? ⟨gp, lo + i, none⟩ = some (.int .i64 (p : Nat)) := hp ▸ (HL6.out.rows.pl.2.2 (lo + i) (by omega)).1
          have hnc := HL6.out.base.2.1
          obtain ⟨lq, hlq⟩ : ∃ x, lcpF (b.drop p) wt = x := ⟨_, rfl⟩
          obtain ⟨L2, hL2⟩ : ∃ x, max L lq = x := ⟨_, rfl⟩
          have HLC := Lib.hid hlq
          have M3 : max (L : Int) (lq : Int) = (L2 : Int) := by omega
          have W3 : IntKind.i64.wrap ((i : Int) + 1) = (i : Int) + 1 := IntWalk.i64_in _ (by have := HN.out; omega)
          have hpI0 : (0 : Int) ≤ (p : Int) := by omega
          have hpI : (p : Int) < (n : Int) := by omega
          have hpc : p ≤ n := by omega
          have hcp : ¬ c = p := by omega
          have hcp' : ¬ p = c := by omega
          have hcc : p ≤ c := by omega
          have HA2 : Hid (∀ j, lo ≤ j → j < lo + (i + 1) → lcpF (stB b P j) wt ≤ L2) := Lib.hid (fun j h1 h2 => by
            by_cases hj : j = lo + i
            · subst hj; show lcpF (b.drop (P.getD (lo + i) 0)) wt ≤ L2; rw [hp, hlq]; omega
            · have := HA.out j h1 (by omega); omega)
          have HE2 : Hid (L2 = 0 ∨ ∃ j, lo ≤ j ∧ j < lo + (i + 1) ∧ lcpF (stB b P j) wt = L2) := Lib.hid (by
            by_cases hm : L ≤ lq
            · exact .inr ⟨lo + i, by omega, by omega, by show lcpF (b.drop (P.getD (lo + i) 0)) wt = L2; rw [hp, hlq]; omega⟩
            · have e : L2 = L := by omega
              rw [e]
              rcases HE.out with h | ⟨j, h1, h2, h3⟩
              · exact .inl h
              · exact .inr ⟨j, h1, by omega, h3⟩)
          have HL7 : Hid (LongW wr.drew gR n c gp kb k bb off w.heap.size bw offw nw cw (.slice (some ⟨gl, 0, none⟩) (2 * n) cl) P Bg b wt) := Lib.hid HL6.out.drew
          have HY7 : Hid (RowAt wr.drew g6 SpanT [.int .i64 (f : Nat), .int .i64 (t : Nat)]) := Lib.hid HY6.out
          have HB7 : Hid (Below w.heap.size w wr.drew) := Lib.hid HB6.out.drew
          clear hg hl hp hlq hL2 hpn hnc
          go_wp2
          refine wp_region_held_drew (S := fun W => W.cell? ⟨gR, 0, none⟩ = some (.slice (some ⟨bb, off, none⟩) n c) ∧ W.cell? ⟨w.heap.size, 0, none⟩ = some (.slice (some ⟨bw, offw, none⟩) nw cw)) (by kernel_rfl) ⟨HL7.out.rows.c0, HL7.out.box⟩ (fun hHeld => ?_)
          generalize wr.drew = wx at HL7 HY7 HB7 hHeld ⊢
          refine wpAnyH_take (i := 0) (oi := ⟨some 54, .move (.tmp 5), _, _, _, _⟩) (v := (.int .i64 (L : Nat))) rfl (by kernel_rfl) (by kernel_rfl) (by kernel_rfl) (fun _ _ _ h => h) (Or.inl ⟨by rfl, fun W hW => by go_simp⟩) (by assumption) ?_
          simp only [Act.put, List.setIfInBounds_toArray, List.set_cons_zero, List.set_cons_succ]
          refine wpAnyH_take (i := 1) (oi := ⟨some 55, .move (.tmp 0), _, _, _, _⟩) (v := (.pointer (some ⟨gR, 0, none⟩))) rfl (by kernel_rfl) (by kernel_rfl) (by kernel_rfl) (fun _ _ _ h => h) (Or.inl ⟨by rfl, fun W hW => by go_simp⟩) (by assumption) ?_
          simp only [Act.put, List.setIfInBounds_toArray, List.set_cons_zero, List.set_cons_succ]
          refine wpAnyH_take (i := 2) (oi := ⟨some 56, .nilCheck (.tmp 55), _, _, _, _⟩) (v := (.pointer (some ⟨gR, 0, none⟩))) rfl (by kernel_rfl) (by kernel_rfl) (by kernel_rfl) (fun _ _ _ h => h) (Or.inl ⟨by rfl, fun W hW => by go_simp⟩) (by assumption) ?_
          simp only [Act.put, List.setIfInBounds_toArray, List.set_cons_zero, List.set_cons_succ]
          refine wpAnyH_take (i := 3) (oi := ⟨some 57, .fieldAddr 57 (.tmp 56) 0, _, _, _, _⟩) (v := (.pointer (some ⟨gR, 0, none⟩))) rfl (by kernel_rfl) (by kernel_rfl) (by kernel_rfl) (fun _ _ _ h => h) (Or.inl ⟨by rfl, fun W hW => by go_simp⟩) (by assumption) ?_
          simp only [Act.put, List.setIfInBounds_toArray, List.set_cons_zero, List.set_cons_succ]
          refine wpAnyH_take (i := 4) (oi := ⟨some 58, .load 22 (.tmp 57), _, _, _, _⟩) (v := (.slice (some ⟨bb, off, none⟩) n c)) rfl (by kernel_rfl) (by kernel_rfl) (by kernel_rfl) (fun _ _ _ h => h) (Or.inl ⟨by rfl, fun W hW => by have hcell := hW.1; go_simp⟩) (by assumption) ?_
          simp only [Act.put, List.setIfInBounds_toArray, List.set_cons_zero, List.set_cons_succ]
          refine wpAnyH_take (i := 5) (oi := ⟨some 59, .move (.tmp 10), _, _, _, _⟩) (v := (.int .i64 (p : Nat))) rfl (by kernel_rfl) (by kernel_rfl) (by kernel_rfl) (fun _ _ _ h => h) (Or.inl ⟨by rfl, fun W hW => by go_simp⟩) (by assumption) ?_
          simp only [Act.put, List.setIfInBounds_toArray, List.set_cons_zero, List.set_cons_succ]
          refine wpAnyH_take (i := 6) (oi := ⟨some 60, .slice 22 (.tmp 58) (some (.tmp 59)) none none, _, _, _, _⟩) (v := (.slice (some ⟨bb, off + p, none⟩) (n - p) (c - p))) rfl (by kernel_rfl) (by kernel_rfl) (by kernel_rfl) (fun _ _ _ h => h) (Or.inl ⟨by rfl, fun W hW => by go_simp⟩) (by assumption) ?_
          simp only [Act.put, List.setIfInBounds_toArray, List.set_cons_zero, List.set_cons_succ]
          refine wpAnyH_take (i := 7) (oi := ⟨some 61, .load 22 (.tmp 3), _, _, _, _⟩) (v := (.slice (some ⟨bw, offw, none⟩) nw cw)) rfl (by kernel_rfl) (by kernel_rfl) (by kernel_rfl) (fun _ _ _ h => h) (Or.inl ⟨by rfl, fun W hW => by have hcell := hW.2; go_simp⟩) (by assumption) ?_
          simp only [Act.put, List.setIfInBounds_toArray, List.set_cons_zero, List.set_cons_succ]
          refine wpAnyH_ready (rs := [8]) (by kernel_rfl) (by simp) ?_
          refine AllReadyH.cons (o := ⟨some 62, .call { callee := .value (.func 34), args := #[(.tmp 60), (.tmp 61)], argTypes := #[22, 22] }, _, _, _, _⟩) rfl (fun K hK => ?_) AllReadyH.nil
          go_wp2_with (go_at_call 34; go_must (refine (common_any _ _ _ _ _ _ _ _ wx (bytes_drop HL7.out.base HPN.out) HL7.out.want).mono ?_; rintro e wy ⟨rfl, hb⟩; have HL8 := Lib.hid (HL7.out.below hb); have HY8 := Lib.hid (HY7.out.below hb); have HB8 := Lib.hid (HB7.out.trans (hb.mono HB7.out.size)); clear hb))
          rw [HLC.out]
          refine hK.out _ _ ⟨HL8.out.rows.c0, HL8.out.box⟩ (fun hHeld => ?_)
          clear hK K
          refine wpAnyH_take (i := 9) (oi := ⟨some 63, .call { callee := .builtin .max, args := #[(.tmp 54), (.tmp 62)], argTypes := #[3, 3] }, _, _, _, _⟩) (v := (.int .i64 (L2 : Nat))) rfl (by kernel_rfl) (by kernel_rfl) (by kernel_rfl) (fun _ _ _ h => h) (Or.inl ⟨by rfl, fun W hW => by go_simp⟩) (by assumption) ?_
          simp only [Act.put, List.setIfInBounds_toArray, List.set_cons_zero, List.set_cons_succ]
          refine wpAnyH_take (i := 10) (oi := ⟨some 5, .assign (.tmp 63), _, _, _, _⟩) (v := (.int .i64 (L2 : Nat))) rfl (by kernel_rfl) (by kernel_rfl) (by kernel_rfl) (fun _ _ _ h => h) (Or.inl ⟨by rfl, fun W hW => by go_simp⟩) (by assumption) ?_
          simp only [Act.put, List.setIfInBounds_toArray, List.set_cons_zero, List.set_cons_succ]
          refine wpAnyH_done (by kernel_rfl) ?_ _
          clear hHeld
          go_wp2
          go_roundg (ln - (i + 1))
          case measure => have := HG.out; have := HIL.out; omega
          case rel => exact ⟨i + 1, L2, rfl, by go_num, by have := HG.out; have := HIL.out; omega, HA2, HE2, HL8, HY8, HB8⟩
        · have hl := hL.out
          have hn := HN.out
          have hie : i = ln := by omega
          subst hie
          have hE : ∃ j, f ≤ j ∧ j < t ∧ lcpF (stB b P j) wt = L := by
            rcases HE.out with h | ⟨j, h1, h2, h3⟩
            · have := HA.out lo (Nat.le_refl _) (by omega)
              exact ⟨lo, by omega, by omega, by omega⟩
            · exact ⟨j, by omega, by omega, h3⟩
          have hw8 : 8 ≤ wt.length := by omega
          have hm := near_most HP.out HBG.out hw8 HFT.out.2.2 HF1.out (l := L) (fun j h1 h2 => HA.out j (by have h3 : max (m1 - 1) f ≤ j := h1; omega) (by have h3 : j < min (m1 + 1) t := h2; omega)) hE
          have HM := Lib.hid hm
          have HEE := Lib.hid hE
          have hLn : L ≤ nw := by obtain ⟨j, _, _, h3⟩ := hE; have := lcp_le_right (stB b P j) wt; omega
          have HLN := Lib.hid hLn
          have h0L : (0 : Int) ≤ (L : Int) := by omega
          have hLc : (L : Int) ≤ (cw : Int) := by omega
          have kb1 := HL6.out.box
          obtain ⟨w9, hw9⟩ : ∃ W, (wr.alloc (.cells #[.slice none 0 0] 22)).setCell ⟨wr.heap.size, 0, none⟩ (.slice (some ⟨bw, offw, none⟩) L cw) = W := ⟨_, rfl⟩
          have hb9 : Below wr.heap.size wr w9 := hw9 ▸ ((Below.refl _ _).alloc (Nat.le_refl _) _).setCell (p := ⟨wr.heap.size, 0, none⟩) (Nat.le_refl _) _
          have c9 : w9.cell? ⟨wr.heap.size, 0, none⟩ = some (.slice (some ⟨bw, offw, none⟩) L cw) := by
            have h1 : (wr.alloc (.cells #[.slice none 0 0] 22)).heap[wr.heap.size]? = some (.cells #[.slice none 0 0] 22 (0, 0)) := heap_alloc_new wr _
            have h2 : (wr.alloc (.cells #[.slice none 0 0] 22)).cell? ⟨wr.heap.size, 0, none⟩ = some (.slice none 0 0) := by rw [cell_of_row _ _ _ _ _ _ h1]; rfl
            rw [← hw9]
            exact World.cell?_setCell_same (a := ⟨wr.heap.size, 0, none⟩) (v := _) (h := h2)
          have HC9 := Lib.hid c9
          have HL9 := Lib.hid (HL6.out.below hb9)
          have HY9 := Lib.hid (HY6.out.below hb9)
          have HB9 := Lib.hid (HB6.out.trans (hb9.mono HB6.out.size))
          clear hg hl hn hE hm hLn hb9 c9 hw8
          go_wp2_with (first | ((with_reducible show wpList _ _ _ (⟨some 69, _, _, _, _, _⟩ :: _) _ _); go_must (refine wl_exD rfl (exec_spanA _ rfl g6 f t rfl HY9.out) ?_)) | (go_at_call 31; (with_reducible refine (seek2_any HL9.out HP.out HN.out.1 (Nat.le_of_lt HFT.out.1) HFT.out.2.1 HLN.out HC9.out).mono ?_); rintro e w10 ⟨fr, rfl, hF2, hb⟩; have HF2 := Lib.hid hF2; have HFR : Hid (f ≤ fr ∧ fr ≤ t) := Lib.hid ⟨hF2.1, hF2.2.1⟩; have HL10 := Lib.hid (HL9.out.below hb); have HY10 := Lib.hid (HY9.out.below hb); have HB10 := Lib.hid (HB9.out.trans (hb.mono HB9.out.size)); have HC10 := Lib.hid ((hb.cell (World.block_lt_of_cell? _ _ HC9.out)).trans HC9.out); have y10 := HY10.out.cell 1 rfl; clear hF2 hb))
          clear hw9
          go_wp2_with (first | (go_at_call 31; (with_reducible refine (seek3_any HL10.out HP.out HN.out.1 HFR.out.2 HFT.out.2.1 HLN.out HC10.out HF2.out).mono ?_); rintro e w11 ⟨tt, rfl, hF3, hb⟩; have HLO := Lib.hid (long_of HP.out HBG.out (by have := HN.out; omega) HFT.out.2.2 HM.out.1 HM.out.2 HEE.out HF2.out hF3); have HL11 := Lib.hid (HL10.out.below hb); have HB11 := Lib.hid (HB10.out.trans (hb.mono HB10.out.size)); clear hF3 hb; have hlo := HLO.out; obtain ⟨Z, hZ⟩ := isMin_there P (tt - fr - 1) fr; rw [show fr + (tt - fr - 1) + 1 = tt from by omega] at hZ; have HZ := Lib.hid hZ; clear hlo hZ) | (go_at_call 38; (with_reducible refine (first_any gR gp kb k gl cl n c fr tt Z (some ⟨bb, off, none⟩) P T Bg w11 HL11.out.rows (HTI.out.below HB11.out) HTD.out HN.out.1 HLO.out.1 (by have h1 := HLO.out.2.1; have h2 := HP.out.len; have h3 := HN.out; omega) HZ.out).mono ?_); rintro e w12 ⟨rfl, hb⟩; have HB12 := Lib.hid (HB11.out.trans (hb.mono HB11.out.size)); clear hb))
          go_ret2
          exact ⟨Z, L, rfl, .inl ⟨HM.out.1, HLO.out.2.2 Z HZ.out⟩, HB12.out⟩
end Go.Proofs.Ytheigemfbcgjcaa
