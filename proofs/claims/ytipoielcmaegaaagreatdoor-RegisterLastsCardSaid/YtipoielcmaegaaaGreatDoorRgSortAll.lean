/-
  Merged: RegKeys, RegSort.
-/
import Derived.Test.YtipoielcmaegaaaGreatDoorOrdAll
import Derived.Sort.Grow
import Derived.Test.YtipoielcmaegaaaGreatDoorRegMem
import Derived.Test.YtipoielcmaegaaaGreatDoorRegShelf
import Derived.Test.YtipoielcmaegaaaGreatDoorIdStep
import Derived.Test.YtipoielcmaegaaaGreatDoorKeysAt
namespace Go.Proofs.YtipoielcmaegaaaGreatDoor
open Go.RowKit

/-- Some draws, and some new blocks. -/
def Grew (w w' : World) : Prop := ∃ q os, w' = Go.Sort.grow (w.drewN q) os
section
variable {w w' w'' : World}
theorem Grew.refl (w : World) : Grew w w := ⟨0, #[], by simp [Go.Sort.grow, World.drewN]⟩
theorem Grew.trans (h : Grew w w') (k : Grew w' w'') : Grew w w'' := by
  obtain ⟨q, os, rfl⟩ := h
  obtain ⟨q', os', rfl⟩ := k
  exact ⟨q + q', os ++ os', by simp [Go.Sort.grow, World.drewN, Nat.add_assoc, Array.append_assoc]⟩
theorem Grew.drewN (h : Grew w w') (n : Nat) : Grew w (w'.drewN n) := h.trans ⟨n, #[], by rw [Go.Sort.grow_empty]⟩
theorem Grew.drew (h : Grew w w') : Grew w w'.drew := h.drewN 1
theorem Grew.alloc (h : Grew w w') (o : Obj) : Grew w (w'.alloc o) := h.trans ⟨0, #[o], by rw [Go.Sort.alloc_eq_grow]; rfl⟩
theorem Grew.below (h : Grew w w') : Below w.heap.size w w' := by
  obtain ⟨q, os, rfl⟩ := h
  exact ⟨rfl, rfl, rfl, by simp [Go.Sort.grow, World.drewN], fun k hk => by
    show (w.heap ++ os)[k]? = _
    rw [Array.getElem?_append_left hk]⟩
end

set_option maxRecDepth 100000 in
set_option maxHeartbeats 400000 in
theorem compareG_any (l k : List UInt8) (w : World) (hl : l.length = 32) (hk : k.length = 32) :
    Calls Tryz.prog 43 #[.agg (idCells l), .agg (idCells k)] w fun e w' => e = .returned (.int .i64 (cmpF l k)) ∧ Grew w w' := by
  have hA : IdAt ((w.alloc (.cells (idCells l) 33)).alloc (.cells (idCells k) 33)) w.heap.size l :=
    ⟨hl, by rw [heap_alloc_old (h := by simp), heap_alloc_new]⟩
  have hB : IdAt ((w.alloc (.cells (idCells l) 33)).alloc (.cells (idCells k) 33)) (w.heap.size + 1) k :=
    ⟨hk, by have := heap_alloc_new (w.alloc (.cells (idCells l) 33)) (.cells (idCells k) 33); simpa using this⟩
  have HA := Lib.hid hA.bytes
  have HB := Lib.hid hB.bytes
  clear hA hB hl hk
  go_enter Tryz.func43, Tryz.ntmps43
  go_wp2
  go_quiet ((go_at_call 64; exact Calls.quiet_of_same ((bcompare_any _ _ _ _ _ _ _ _ _ (HA.out.below (below_drewN (Below.refl _ _) _)) (HB.out.below (below_drewN (Below.refl _ _) _))).mono fun e w' ⟨h1, h2⟩ => ⟨h1, h2.symm⟩)))
  go_wp2
  go_ret
  exact ⟨rfl, (((Grew.refl _).alloc _).alloc _).drewN _⟩

set_option maxRecDepth 100000 in
set_option maxHeartbeats 2000000 in
theorem keysG_any (a b : KeyV) (w : World) (ha : a.c.length = 32) (hb : b.c.length = 32) :
    Calls Tryz.prog 26 #[.agg (keyC a), .agg (keyC b)] w (fun e w' => e = .returned (.int .i64 (keyF a b)) ∧ Grew w w') := by
  obtain ⟨hA, hB⟩ := two_keys w a b ha hb
  have hbel : Below w.heap.size w ((w.alloc (.cells (keyC a) 35)).alloc (.cells (keyC b) 35)) := ((Below.refl _ _).alloc (Nat.le_refl _) _).alloc (by simp) _
  have HA := Lib.hid hA
  have HB := Lib.hid hB
  have HAC := Lib.hid ha
  have HBC := Lib.hid hb
  have HBL := Lib.hid hbel
  have HK := Lib.hid (keyF_or a b)
  have hu := Tryz.underlying33
  have hi1 : (Tryz.prog.info? 33).map (·.size) = some (a.c.map B).length := by rw [List.length_map, ha]; exact info_id
  have hi2 : (Tryz.prog.info? 33).map (·.size) = some (b.c.map B).length := by rw [List.length_map, hb]; exact info_id
  clear hA hB ha hb hbel
  go_enter Tryz.func26, Tryz.ntmps26
  go_wp2
  have HW0 : Hid (Grew w ((w.alloc (.cells (keyC a) 35)).alloc (.cells (keyC b) 35))) := Lib.hid (((Grew.refl w).alloc _).alloc _)
  generalize (w.alloc (.cells (keyC a) 35)).alloc (.cells (keyC b) 35) = W0 at HA HB HBL HW0 ⊢
  have hS0 : Below W0.heap.size W0 W0.drew := (Below.refl _ _).drew
  refine wp_region_held_drew (S := fun W => Below W0.heap.size W0 W) (by kernel_rfl) hS0 (fun hHeld => ?_)
  refine wpAnyH_take (i := 0) (oi := ⟨some 5, .fieldAddr 35 (.tmp 2) 0, _, _, _, _⟩) (v := (.pointer (some ⟨w.heap.size, 0, none⟩))) rfl (by kernel_rfl) (by kernel_rfl) (by kernel_rfl) (fun _ _ _ h => h) (Or.inl ⟨by rfl, fun W hW => by go_simp⟩) (by assumption) ?_
  simp only [Act.put, List.setIfInBounds_toArray, List.set_cons_zero, List.set_cons_succ]
  refine wpAnyH_take (i := 1) (oi := ⟨some 6, .load 3 (.tmp 5), _, _, _, _⟩) (v := (.int .i64 a.t)) rfl (by kernel_rfl) (by kernel_rfl) (by kernel_rfl) (fun _ _ _ h => h) (Or.inl ⟨by rfl, fun W hW => by have hcell := (HA.out.below hW).time; go_simp⟩) (by assumption) ?_
  simp only [Act.put, List.setIfInBounds_toArray, List.set_cons_zero, List.set_cons_succ]
  refine wpAnyH_take (i := 2) (oi := ⟨some 7, .fieldAddr 35 (.tmp 3) 0, _, _, _, _⟩) (v := (.pointer (some ⟨(w.heap.size + 1), 0, none⟩))) rfl (by kernel_rfl) (by kernel_rfl) (by kernel_rfl) (fun _ _ _ h => h) (Or.inl ⟨by rfl, fun W hW => by go_simp⟩) (by assumption) ?_
  simp only [Act.put, List.setIfInBounds_toArray, List.set_cons_zero, List.set_cons_succ]
  refine wpAnyH_take (i := 3) (oi := ⟨some 8, .load 3 (.tmp 7), _, _, _, _⟩) (v := (.int .i64 b.t)) rfl (by kernel_rfl) (by kernel_rfl) (by kernel_rfl) (fun _ _ _ h => h) (Or.inl ⟨by rfl, fun W hW => by have hcell := (HB.out.below hW).time; go_simp⟩) (by assumption) ?_
  simp only [Act.put, List.setIfInBounds_toArray, List.set_cons_zero, List.set_cons_succ]
  refine wpAnyH_take (i := 5) (oi := ⟨some 10, .fieldAddr 35 (.tmp 2) 1, _, _, _, _⟩) (v := (.pointer (some ⟨w.heap.size, 1, none⟩))) rfl (by kernel_rfl) (by kernel_rfl) (by kernel_rfl) (fun _ _ _ h => h) (Or.inl ⟨by rfl, fun W hW => by go_simp⟩) (by assumption) ?_
  simp only [Act.put, List.setIfInBounds_toArray, List.set_cons_zero, List.set_cons_succ]
  refine wpAnyH_take (i := 6) (oi := ⟨some 11, .load 33 (.tmp 10), _, _, _, _⟩) (v := _) rfl (by kernel_rfl) (by kernel_rfl) (by kernel_rfl) (fun _ _ _ h => h) (yieldsIf_load_mid (by rfl) _ _ rfl _ _ rfl _ _ (fun W hW => (HA.out.below hW).change) hu rfl hi1) (by assumption) ?_
  simp only [Act.put, List.setIfInBounds_toArray, List.set_cons_zero, List.set_cons_succ]
  refine wpAnyH_take (i := 7) (oi := ⟨some 12, .fieldAddr 35 (.tmp 3) 1, _, _, _, _⟩) (v := (.pointer (some ⟨(w.heap.size + 1), 1, none⟩))) rfl (by kernel_rfl) (by kernel_rfl) (by kernel_rfl) (fun _ _ _ h => h) (Or.inl ⟨by rfl, fun W hW => by go_simp⟩) (by assumption) ?_
  simp only [Act.put, List.setIfInBounds_toArray, List.set_cons_zero, List.set_cons_succ]
  refine wpAnyH_take (i := 8) (oi := ⟨some 13, .load 33 (.tmp 12), _, _, _, _⟩) (v := _) rfl (by kernel_rfl) (by kernel_rfl) (by kernel_rfl) (fun _ _ _ h => h) (yieldsIf_load_mid (by rfl) _ _ rfl _ _ rfl _ _ (fun W hW => (HB.out.below hW).change) hu rfl hi2) (by assumption) ?_
  simp only [Act.put, List.setIfInBounds_toArray, List.set_cons_zero, List.set_cons_succ]
  refine wpAnyH_take (i := 10) (oi := ⟨some 15, .fieldAddr 35 (.tmp 2) 2, _, _, _, _⟩) (v := (.pointer (some ⟨w.heap.size, 33, none⟩))) rfl (by kernel_rfl) (by kernel_rfl) (by kernel_rfl) (fun _ _ _ h => h) (Or.inl ⟨by rfl, fun W hW => by go_simp⟩) (by assumption) ?_
  simp only [Act.put, List.setIfInBounds_toArray, List.set_cons_zero, List.set_cons_succ]
  refine wpAnyH_take (i := 11) (oi := ⟨some 16, .load 3 (.tmp 15), _, _, _, _⟩) (v := (.int .i64 a.i)) rfl (by kernel_rfl) (by kernel_rfl) (by kernel_rfl) (fun _ _ _ h => h) (Or.inl ⟨by rfl, fun W hW => by have hcell := (HA.out.below hW).index; go_simp⟩) (by assumption) ?_
  simp only [Act.put, List.setIfInBounds_toArray, List.set_cons_zero, List.set_cons_succ]
  refine wpAnyH_take (i := 12) (oi := ⟨some 17, .fieldAddr 35 (.tmp 3) 2, _, _, _, _⟩) (v := (.pointer (some ⟨(w.heap.size + 1), 33, none⟩))) rfl (by kernel_rfl) (by kernel_rfl) (by kernel_rfl) (fun _ _ _ h => h) (Or.inl ⟨by rfl, fun W hW => by go_simp⟩) (by assumption) ?_
  simp only [Act.put, List.setIfInBounds_toArray, List.set_cons_zero, List.set_cons_succ]
  refine wpAnyH_take (i := 13) (oi := ⟨some 18, .load 3 (.tmp 17), _, _, _, _⟩) (v := (.int .i64 b.i)) rfl (by kernel_rfl) (by kernel_rfl) (by kernel_rfl) (fun _ _ _ h => h) (Or.inl ⟨by rfl, fun W hW => by have hcell := (HB.out.below hW).index; go_simp⟩) (by assumption) ?_
  simp only [Act.put, List.setIfInBounds_toArray, List.set_cons_zero, List.set_cons_succ]
  refine wpAnyH_ready (rs := [4]) (by kernel_rfl) (by simp) ?_
  refine AllReadyH.cons (o := ⟨some 9, .call { callee := .value (.func 42), args := #[.tmp 6, .tmp 8], argTypes := #[3, 3] }, _, _, _, _⟩) rfl (fun K hK => ?_) AllReadyH.nil
  go_simp
  go_wp2_with (go_at_call 42; go_must (refine (cmpInt_any _ _ _).mono ?_); rintro e w1 ⟨rfl, rfl⟩)
  refine hK.out _ _ hS0 (fun hHeld => ?_)
  clear hK K
  refine wpAnyH_ready (rs := [9]) (by kernel_rfl) (by simp) ?_
  refine AllReadyH.cons (o := ⟨some 14, .call { callee := .value (.func 43), args := #[.tmp 11, .tmp 13], argTypes := #[33, 33] }, _, _, _, _⟩) rfl (fun K hK => ?_) AllReadyH.nil
  go_simp
  go_wp2_with (go_at_call 43; go_must (refine (compareG_any a.c b.c _ HAC.out HBC.out).mono ?_); rintro e w2 ⟨rfl, hg2⟩; have hb2 := hg2.below; have hS2 := hS0.trans (hb2.mono hS0.size); have HG2 := Lib.hid hg2)
  refine hK.out _ _ hS2 (fun hHeld => ?_)
  clear hK K
  refine wpAnyH_ready (rs := [14]) (by kernel_rfl) (by simp) ?_
  refine AllReadyH.cons (o := ⟨some 19, .call { callee := .value (.func 42), args := #[.tmp 16, .tmp 18], argTypes := #[3, 3] }, _, _, _, _⟩) rfl (fun K hK => ?_) AllReadyH.nil
  go_simp
  go_wp2_with (go_at_call 42; go_must (refine (cmpInt_any _ _ _).mono ?_); rintro e w1 ⟨rfl, rfl⟩)
  refine hK.out _ _ hS2 (fun hHeld => ?_)
  clear hK K
  refine wpAnyH_ready (rs := [15]) (by kernel_rfl) (by simp) ?_
  refine AllReadyH.cons (o := ⟨some 20, .buildSlice 57 3 #[(0, .tmp 9), (1, .tmp 14), (2, .tmp 19)], _, _, _, _⟩) rfl (fun K hK => ?_) AllReadyH.nil
  go_simp
  have hS3 := hS2.alloc hS2.size (.cells #[.int .i64 (intF a.t b.t), .int .i64 (cmpF a.c b.c), .int .i64 (intF a.i b.i)] 3); have HC3 := Lib.hid (cells3 w2 (intF a.t b.t) (cmpF a.c b.c) (intF a.i b.i))
  refine hK.out _ _ hS3 (fun hHeld => ?_)
  clear hK K
  refine wpAnyH_ready (rs := [16]) (by kernel_rfl) (by simp) ?_
  refine AllReadyH.cons (o := ⟨some 21, .call { callee := .value (.func 41), args := #[.tmp 20], argTypes := #[57] }, _, _, _, _⟩) rfl (fun K hK => ?_) AllReadyH.nil
  go_simp
  go_wp2_with (go_at_call 41; go_must (refine (or_any _ _ _ _ _ HC3.out.1 HC3.out.2.1 HC3.out.2.2).mono ?_); rintro e w4 ⟨rfl, rfl⟩)
  refine hK.out _ _ hS3 (fun hHeld => ?_)
  clear hK K
  refine wpAnyH_take (i := 17) (oi := ⟨some 4, .assign (.tmp 21), _, _, _, _⟩) (v := (.int .i64 (orF (intF a.t b.t) (cmpF a.c b.c) (intF a.i b.i)))) rfl (by kernel_rfl) (by kernel_rfl) (by kernel_rfl) (fun _ _ _ h => h) (Or.inl ⟨by rfl, fun W hW => by go_simp⟩) (by assumption) ?_
  simp only [Act.put, List.setIfInBounds_toArray, List.set_cons_zero, List.set_cons_succ]
  refine wpAnyH_done (by kernel_rfl) ?_ _
  go_wp2
  go_ret
  exact ⟨by rw [HK.out]; rfl, HW0.out.trans (((Grew.refl _).drew.trans HG2.out).alloc _)⟩
#print axioms keysG_any
end Go.Proofs.YtipoielcmaegaaaGreatDoor

namespace Go.Proofs.YtipoielcmaegaaaGreatDoor
open Go.RowKit Go.Sort Go.Lib

theorem claimC_size {c : ClaimV} (h1 : c.key.c.length = 32) (h2 : c.doc.c.length = 32) : (claimC c).size = 70 := by
  unfold claimC; rw [List.size_toArray, claimL_len h1 h2]
/-- A claim in a block of its own. -/
def ClaimAt (w : World) (g : Nat) (c : ClaimV) : Prop := (c.key.c.length = 32 ∧ c.doc.c.length = 32) ∧ w.heap[g]? = some (.cells (claimC c) CEr (0, 0))
section
variable {w w' : World} {g : Nat} {c : ClaimV}
theorem ClaimAt.lt (h : ClaimAt w g c) : g < w.heap.size := by
  rcases Nat.lt_or_ge g w.heap.size with h' | h'
  · exact h'
  · have := h.2
    rw [Array.getElem?_eq_none h'] at this; cases this
theorem ClaimAt.below (h : ClaimAt w g c) (hb : Below w.heap.size w w') : ClaimAt w' g c := ⟨h.1, by rw [hb.block g h.lt]; exact h.2⟩
theorem ClaimAt.cell (h : ClaimAt w g c) (i : Nat) (v : Value) (hv : (claimL c)[i]? = some v) : w.cell? ⟨g, i, none⟩ = some v := by
  rw [cell_of_row w g i (claimC c) CEr (0, 0) h.2]
  unfold claimC
  simpa using hv
theorem ClaimAt.key (h : ClaimAt w g c) : w.rangeAt g 0 (keyL c.key) := fun i v hv => by
  rw [Nat.zero_add]
  refine h.cell i v ?_
  unfold claimL
  rw [List.getElem?_append_left (List.getElem?_eq_some_iff.1 hv).1]
  exact hv
theorem ClaimAt.doc (h : ClaimAt w g c) : w.rangeAt g 34 (keyL c.doc) := fun i v hv => by
  have h1 := keyL_length h.1.1
  refine h.cell (34 + i) v ?_
  unfold claimL
  rw [List.getElem?_append_right (by omega), h1, Nat.add_sub_cancel_left, List.getElem?_append_left (List.getElem?_eq_some_iff.1 hv).1]
  exact hv
theorem ClaimAt.kind (h : ClaimAt w g c) : w.cell? ⟨g, 68, none⟩ = some (.int .u8 (c.kind : Int)) := by
  have h1 := keyL_length h.1.1
  have h2 := keyL_length h.1.2
  refine h.cell 68 _ ?_
  unfold claimL
  rw [List.getElem?_append_right (by omega), h1, List.getElem?_append_right (by omega), h2]; rfl
theorem ClaimAt.path (h : ClaimAt w g c) : w.cell? ⟨g, 69, none⟩ = some (.string (strB c.path)) := by
  have h1 := keyL_length h.1.1
  have h2 := keyL_length h.1.2
  refine h.cell 69 _ ?_
  unfold claimL
  rw [List.getElem?_append_right (by omega), h1, List.getElem?_append_right (by omega), h2]; rfl
theorem ClaimAt.all (h : ClaimAt w g c) : w.rangeAt g 0 (claimL c) := fun i v hv => by
  rw [Nat.zero_add]; exact h.cell i v hv
theorem claimAt_new (w : World) (c : ClaimV) (hc : c.key.c.length = 32 ∧ c.doc.c.length = 32) : ClaimAt (w.alloc (.cells (claimC c) CEr)) w.heap.size c := ⟨hc, heap_alloc_new _ _⟩
theorem claimAt_two (w : World) (a b : ClaimV) (ha : a.key.c.length = 32 ∧ a.doc.c.length = 32) (hb : b.key.c.length = 32 ∧ b.doc.c.length = 32) :
    ClaimAt ((w.alloc (.cells (claimC a) CEr)).alloc (.cells (claimC b) CEr)) w.heap.size a ∧ ClaimAt ((w.alloc (.cells (claimC a) CEr)).alloc (.cells (claimC b) CEr)) (w.heap.size + 1) b :=
  ⟨⟨ha, by rw [heap_alloc_old (h := by simp), heap_alloc_new]⟩, ⟨hb, by have := heap_alloc_new (w.alloc (.cells (claimC a) CEr)) (.cells (claimC b) CEr); simpa using this⟩⟩
end
/-- The load of a key, at the operation. -/
theorem wl_loadKey {w : World} {ops : Array Oper} {rest : List Oper} {o : Oper} {a : Act} {Q : Exit → Act → World → Prop} (hgd : o.guard = none) (x : Operand) (ho : o.op = .load 35 x)
    (b off : Nat) (k : KeyV) (hl : k.c.length = 32) (hx : a.eval x = .pointer (some ⟨b, off, none⟩)) (hc : w.rangeAt b off (keyL k))
    (h : wpList Tryz.prog ops Q rest (a.put o.dst (.agg (keyC k))) w) : wpList Tryz.prog ops Q (o :: rest) a w :=
  wpList_load_mid hgd _ x ho b off hx (keyL k) _ hc Tryz.underlying35 rfl (by rw [keyL_length hl]; exact infoKey) h

set_option maxRecDepth 100000 in
set_option maxHeartbeats 1000000 in
theorem closure_any (x y : ClaimV) (hx : x.key.c.length = 32 ∧ x.doc.c.length = 32) (hy : y.key.c.length = 32 ∧ y.doc.c.length = 32) (W : World) :
    Calls Tryz.prog 25 #[.agg (claimC x), .agg (claimC y)] W fun e w' => e = .returned (.int .i64 (keyF x.doc y.doc)) ∧ Grew W w' := by
  obtain ⟨h1, h2⟩ := claimAt_two W x y hx hy
  have HX := Lib.hid h1
  have HY := Lib.hid h2
  have HG := Lib.hid (((Grew.refl W).alloc (.cells (claimC x) CEr)).alloc (.cells (claimC y) CEr))
  have HC := Lib.hid (fun w => keysG_any x.doc y.doc w hx.2 hy.2)
  clear h1 h2 hx hy
  go_enter Tryz.func25, Tryz.ntmps25
  go_wp2_with (first
    | ((with_reducible show wpList _ _ _ (⟨some 6, _, _, _, _, _⟩ :: _) _ _); go_must (refine wl_loadKey rfl _ rfl _ _ x.doc HX.out.1.2 rfl HX.out.doc ?_))
    | ((with_reducible show wpList _ _ _ (⟨some 8, _, _, _, _, _⟩ :: _) _ _); go_must (refine wl_loadKey rfl _ rfl _ _ y.doc HY.out.1.2 rfl HY.out.doc ?_))
    | (go_at_call 26; go_must (refine (HC.out _).mono ?_); rintro e w1 ⟨rfl, hg1⟩))
  go_ret
  exact ⟨rfl, HG.out.trans hg1⟩
#print axioms closure_any

theorem aggCl (w : World) : (isAgg CEr).run Tryz.prog w = .ok true w := by kernel_rfl
theorem sizeCl (w : World) : (Go.sizeOf CEr).run Tryz.prog w = .ok 70 w := by kernel_rfl
theorem heap_sortWorldK {α : Type} [Inhabited α] (enc : α → List Value) (k : Nat) (w : World) (blk off m : Nat) (d : Array α) (os : Array Obj) {j : Nat} (hj : j < w.heap.size) (hne : j ≠ blk) : (sortWorldK enc k w blk off m d os).heap[j]? = w.heap[j]? := by
  unfold sortWorldK putRowK
  rw [heap_grow_old _ _ (by simpa using hj)]
  unfold putRow mapBlock
  simp only [Sort.heap_ahead]
  rw [Array.getElem?_modify, if_neg (fun e => hne e.symm)]
theorem below_sortWorldK {α : Type} [Inhabited α] (enc : α → List Value) (k : Nat) (w0 w : World) (base blk off m : Nat) (d : Array α) (os : Array Obj) (h : Below base w0 w) (hb : base ≤ blk) (hs : base ≤ w.heap.size) : Below base w0 (sortWorldK enc k w blk off m d os) := by
  refine ⟨h.os, h.tape, h.output, ?_, fun j hj => ?_⟩
  · have := h.size
    unfold sortWorldK putRowK
    rw [size_grow, Sort.size_putRow]
    simp only [Sort.heap_ahead]
    omega
  · rw [heap_sortWorldK enc k w blk off m d os (by omega) (by omega)]
    exact h.block j hj

/-- Claims of these, no two of one document. -/
abbrev Among (T : List ClaimV) : Type := {c : ClaimV // c ∈ T}
def encA (T : List ClaimV) (x : Among T) : List Value := claimL x.val
def cfA (T : List ClaimV) (x y : Among T) : Int := keyF x.val.doc y.val.doc
theorem ltA {T : List ClaimV} (x y : Among T) : ltOf (cfA T) x y = true ↔ keyF x.val.doc y.val.doc < 0 := by unfold ltOf cfA; rw [decide_eq_true_iff]
theorem ltA_f {T : List ClaimV} (x y : Among T) : ltOf (cfA T) x y = false ↔ ¬ keyF x.val.doc y.val.doc < 0 := by rw [← ltA]; simp
theorem swoA (T : List ClaimV) : SWO (ltOf (cfA T)) where
  irrefl x := by rw [ltA_f, keyF_self]; omega
  trans x y z h1 h2 := by rw [ltA] at *; exact keyF_lt_le h1 (by omega)
  ntrans x y z h1 h2 := by
    rw [ltA_f] at *
    intro h3
    have a1 := keyF_anti x.val.doc y.val.doc
    have a2 := keyF_anti y.val.doc z.val.doc
    have a3 := keyF_anti x.val.doc z.val.doc
    have := (keyF_trans (a := z.val.doc) (b := y.val.doc) (c := x.val.doc) (by omega) (by omega)).1
    omega
/-- What sorting makes of them. -/
def sortA (T : List ClaimV) : List ClaimV := (T.attach.mergeSort fun x y => !(ltOf (cfA T)) y x).map Subtype.val
theorem sortA_perm (T : List ClaimV) : (sortA T).Perm T := by
  have h1 := (List.mergeSort_perm T.attach fun x y => !(ltOf (cfA T)) y x).map Subtype.val
  rwa [List.attach_map_subtype_val] at h1
theorem sortA_sorted {T : List ClaimV} (hn : T.Nodup) (hd : ∀ a ∈ T, ∀ b ∈ T, a.doc = b.doc → a = b) : (sortA T).Pairwise fun a b => keyF a.doc b.doc < 0 := by
  have h1 := List.pairwise_mergeSort (le := fun x y => !(ltOf (cfA T)) y x) (fun a b c h1 h2 => by
      simp only [Bool.not_eq_true'] at h1 h2 ⊢
      exact (swoA T).ntrans _ _ _ h2 h1) (fun a b => by
      cases hh : ltOf (cfA T) b a
      · rfl
      · rw [ltA] at hh
        have : ltOf (cfA T) a b = false := by
          rw [ltA_f]
          have := keyF_anti a.val.doc b.val.doc
          omega
        simp [this]) T.attach
  have h2 : (sortA T).Pairwise fun a b => keyF a.doc b.doc ≤ 0 := by
    unfold sortA
    rw [List.pairwise_map]
    refine h1.imp (fun {a b} hh => ?_)
    simp only [Bool.not_eq_true'] at hh
    rw [ltA_f] at hh
    have := keyF_anti a.val.doc b.val.doc
    omega
  have h3 : (sortA T).Nodup := (sortA_perm T).symm.nodup hn
  have hm : ∀ a ∈ sortA T, a ∈ T := fun a h => (sortA_perm T).mem_iff.1 h
  generalize sortA T = S at h2 h3 hm
  clear h1
  induction S with
  | nil => exact List.Pairwise.nil
  | cons x r ih =>
    obtain ⟨p1, p2⟩ := List.pairwise_cons.1 h2
    obtain ⟨q1, q2⟩ := List.nodup_cons.1 h3
    refine List.pairwise_cons.2 ⟨fun b hb => ?_, ih p2 q2 (fun a h => hm a (by simp [h]))⟩
    rcases Int.lt_or_eq_of_le (p1 b hb) with h | h
    · exact h
    · have := hd x (hm x (by simp)) b (hm b (by simp [hb])) (keyF_eq h)
      subst this
      exact absurd hb q1

theorem sort_claims (T : List ClaimV) (hd : ∀ a ∈ T, ∀ b ∈ T, a.doc = b.doc → a = b) (g n cap base : Nat) (w : World) (hown : OwnG clK CEr w base (.slice (some ⟨g, 0, none⟩) n cap) T) (hp : 0 < n) (hb : n ≤ 1000000000) :
    Calls Tryz.prog 24 #[.slice (some ⟨g, 0, none⟩) n cap, .func (.func 25) #[] #[]] w fun e w' =>
      e = .returned (.tuple #[]) ∧ AtG clK w' (some ⟨g, 0, none⟩) n cap (sortA T) ∧ ∀ w0, Below base w0 w → base ≤ w.heap.size → Below base w0 w' := by
  have hlen := hown.len
  have hat := hown.atG
  obtain ⟨g', hg', hbg, hgl, hfz⟩ := hown.row hp
  simp only [Option.some.injEq, Addr.mk.injEq, and_true] at hg'
  subst hg'
  have hok := hown.2
  have hx0 : ∃ x, x ∈ T := ⟨T[0]'(by omega), List.getElem_mem _⟩
  obtain ⟨x0, hx0⟩ := hx0
  haveI : Inhabited (Among T) := ⟨⟨x0, hx0⟩⟩
  have hk : ∀ x : Among T, (encA T x).length = 70 := fun x => claimL_len (hok x.val x.property).1 (hok x.val x.property).2.1
  have h1 : ∀ x : Among T, ∀ v ∈ encA T x, v.oneCell' = true := fun x => claimL_one x.val
  let d : Array (Among T) := T.attach.toArray
  have hds : d.size = n := by simp [d, hlen]
  have hdj : ∀ j, j < n → (d[j]!).val = gd T j := fun j hj => by
    rw [getElem!_pos d j (by rw [hds]; exact hj)]
    unfold gd
    have hj2 : j < T.length := by omega
    simp [d, hj2]
  have hH : HoldsK (encA T) 70 w g 0 d := fun j hj => by
    have hj' : j < d.size * 70 := by simpa [size_flatK] using hj
    rw [hds] at hj'
    have hq : j / 70 < n := by omega
    have e : (flatK (encA T) 70 d)[j]! = (encA T d[j / 70]!)[j % 70]! := get_flatK _ _ _ _ (by rw [hds]; exact hj')
    rw [e]
    have hl := hk d[j / 70]!
    have hm : j % 70 < 70 := Nat.mod_lt _ (by omega)
    have hc := hat.cell (j / 70) hq (j % 70) ((encA T d[j / 70]!)[j % 70]!) (by
      show (claimL (gd T (j / 70)))[j % 70]? = _
      have e2 : encA T d[j / 70]! = claimL (gd T (j / 70)) := by unfold encA; rw [hdj _ hq]
      rw [← e2]
      generalize encA T d[j / 70]! = q at hl ⊢
      rw [getElem!_pos q _ (by omega), List.getElem?_eq_getElem])
    have e3 : 0 + j / 70 * clK.k + j % 70 = 0 + j := by
      have : clK.k = 70 := rfl
      rw [this]; omega
    rw [e3] at hc
    exact ⟨hc, hfz _⟩
  have eg : ∀ args w, (callFunc 25 args).run Tryz.prog w = .ok (.enter 25 args) w := enters_of Tryz.func25 (by kernel_rfl) rfl
  have hcmp : CmpLays Tryz.prog 25 #[] (encA T) 70 (cfA T) g 0 d.size w := by
    intro m os dk _ x y
    exact closure_any x.val y.val ⟨(hok x.val x.property).1, (hok x.val x.property).2.1⟩ ⟨(hok y.val y.property).1, (hok y.val y.property).2.1⟩ _
  have h := Tryz.sortClaims_total 70 aggCl sizeCl (encA T) hk h1 (cfA T) (swoA T) 25 #[] g 0 cap d w eg hcmp hH hgl (by rw [hds]; omega) (fun x y a b => by
    rw [ltA_f] at a b
    have := keyF_anti x.val.doc y.val.doc
    exact Subtype.ext (hd _ x.property _ y.property (keyF_eq (by omega))))
  rw [hds] at h
  refine h.mono ?_
  rintro e w' ⟨rfl, m, os, rfl⟩
  have hdl : d.toList = T.attach := rfl
  rw [hdl]
  obtain ⟨M, hM⟩ : ∃ M, M = T.attach.mergeSort fun x y => !(ltOf (cfA T)) y x := ⟨_, rfl⟩
  have hMl : M.length = n := by rw [hM, List.length_mergeSort, List.length_attach, hlen]
  have hS : sortA T = M.map Subtype.val := by rw [hM]; rfl
  rw [← hM]
  have hMs : M.toArray.size = d.size := by rw [hds]; simpa using hMl
  have hh : HoldsK (encA T) 70 (sortWorldK (encA T) 70 w g 0 m M.toArray os) g 0 M.toArray := holdsK_sortWorldK_c (encA T) 70 w g 0 d M.toArray m os hH hgl hMs
  refine ⟨rfl, ⟨by rw [hS, List.length_map, hMl], hat.2.1, hat.2.2.1, fun x hx => hok x ((sortA_perm T).mem_iff.1 hx), .inr ⟨g, 0, rfl, fun j hj i v hv => ?_⟩⟩, fun w0 hb1 hb2 => below_sortWorldK (encA T) 70 w0 w base g 0 m _ os hb1 hbg hb2⟩
  have e1 : gd (sortA T) j = (M.toArray[j]!).val := by
    have hj2 : j < M.length := by omega
    have hj3 : j < M.toArray.size := by simpa using hj2
    rw [hS, getElem!_pos M.toArray j hj3]
    unfold gd
    simp [hj2]
  have hi : i < 70 := by
    have h3 := (List.getElem?_eq_some_iff.1 hv).1
    have h4 : (clK.cells (gd (sortA T) j)).length = 70 := by rw [e1]; exact hk _
    omega
  have hc := (hh.cell (i := j) (c := i) (by rw [hMs, hds]; exact hj) hi).1
  have e2 : clK.k = 70 := rfl
  rw [e2, hc]
  rw [e1] at hv
  have hv' : (encA T M.toArray[j]!)[i]? = some v := hv
  rw [getElem!_pos _ _ (by rw [hk]; exact hi)]
  rw [List.getElem?_eq_getElem (by rw [hk]; exact hi)] at hv'
  exact hv'
#print axioms sort_claims
end Go.Proofs.YtipoielcmaegaaaGreatDoor
