/-
  Merged: RfWrite, RfWrite2.
-/
import Derived.Test.YthihmlojdopmfaaDoorRfRead3
import Derived.Test.YthihmlojdopmfaaDoorGrp1
import Derived.Test.YthihmlojdopmfaaDoorGrp16
namespace Go.Proofs.YthihmlojdopmfaaDoor
open Go.RowKit

abbrev SBf : TypeId := 28
abbrev U8f : TypeId := 5
def bwK : Kind UInt8 := ⟨fun x => [B x], 1, fun _ => True, by decide, fun _ _ => rfl, fun x _ v hv => by
 simp only [List.mem_cons, List.not_mem_nil, or_false] at hv; subst hv; rfl⟩
theorem flat_bw (l : List UInt8) : flatG bwK l = l.map B := by
 induction l with
 | nil => rfl
 | cons x l ih => show B x :: flatG bwK l = _; rw [ih]; rfl
theorem Own.toW {w : World} {base : Nat} {v : Value} {l : List UInt8} (h : Own w base v l) : OwnG bwK U8f w base v l := ⟨by rw [flat_bw]; exact h, fun _ _ => trivial⟩
theorem OwnG.ofW {w : World} {base : Nat} {v : Value} {l : List UInt8} (h : OwnG bwK U8f w base v l) : Own w base v l := by have := h.1; rw [flat_bw] at this; exact this
theorem Bytes.toW {w : World} {a : Option Addr} {n c : Nat} {l : List UInt8} (h : Bytes w a n c l) : AtG bwK w a n c l := by
 obtain ⟨h1, h2, h3, h4⟩ := h
 refine ⟨h1, h2, h3, fun _ _ => trivial, ?_⟩
 rcases h4 with h4 | ⟨b, off, ha, hc⟩
 ·exact .inl h4
 ·refine .inr ⟨b, off, ha, fun j hj i v hv => ?_⟩
  obtain rfl : i = 0 := by
   have h := (List.getElem?_eq_some_iff.1 hv).1
   simp [bwK] at h; exact h
  have e := hc j hj
  simp [bwK] at hv
  show w.cell? ⟨b, off + j * 1 + 0, none⟩ = some v
  rw [Nat.mul_one, Nat.add_zero, e, ← hv]
  rfl
theorem wp_appB {w : World} {o : Oper} {a : Act} {K' : Act → World → Prop} {Q : Exit → Act → World → Prop} (s x : Operand)
  (ho : o.op = .call { callee := .builtin .append, args := #[s, x], argTypes := #[SBf, SBf] })
  (base : Nat) (v : Value) (l : List UInt8) (hs : a.eval s = v) (hown : Own w base v l)
  (sa : Option Addr) (m c : Nat) (src : List UInt8) (hx : a.eval x = .slice sa m c) (hsrc : Bytes w sa m c src)
  (h48 : l.length + m ≤ 70368744177664) (hbase : base ≤ w.heap.size)
  (h : ∀ a' n' c' w', Own w' base (.slice a' n' c') (l ++ src) → w.grownBy w' v.ownBlock → K' (a.put o.dst (.slice a' n' c')) w') : o.wp Tryd.prog a w K' Q :=
 wp_appG bwK Tryd.underlying28 Tryd.info5 rfl s x ho base v l hs hown.toW sa m c src hx hsrc.toW (by omega) hbase _ rfl (fun a' c' w' h1 h2 => h a' _ c' w' h1.ofW h2)
theorem wp_store_slot {w : World} {o : Oper} {a : Act} {K : Act → World → Prop} {Q : Exit → Act → World → Prop} (x y : Operand) (ho : o.op = .store SBf x y)
  (g : Nat) (v0 : Value) (sa : Option Addr) (n c : Nat) (hx : a.eval x = .pointer (some ⟨g, 0, none⟩)) (hy : a.eval y = .slice sa n c) (hr : RowAt w g SBf [v0])
  (h : K (a.put o.dst undef) (w.setCell ⟨g, 0, none⟩ (.slice sa n c))) : o.wp Tryd.prog a w K Q := by
 have c0 := hr.cell 0 rfl
 have f0 := hr.free 0
 have hrun : (execOp a.eval o).run Tryd.prog w = .ok .skip (w.setCell ⟨g, 0, none⟩ (.slice sa n c)) := by
  unfold execOp
  simp only [ho, hx, hy, Instr.storeAt, Instr.sureAddr, Sem.run_bind, Sem.run_pure, Result.andThen_ok]
  go_simp
 unfold Oper.wp
 rw [hrun]
 exact h
structure WG (gb : Nat) (w w' : World) : Prop where
 os : w'.os = w.os
 tape : w'.tape = w.tape
 output : w'.output = w.output
 size : w.heap.size ≤ w'.heap.size
 low : ∀ k, k < w.heap.size → k < gb → w'.heap[k]? = w.heap[k]?
 row : ∀ k E cs, E ≠ U8f → k ≠ gb → RowAt w k E cs → RowAt w' k E cs
theorem WG.refl (gb : Nat) (w : World) : WG gb w w := ⟨rfl, rfl, rfl, Nat.le_refl _, fun _ _ _ => rfl, fun _ _ _ _ _ h => h⟩
theorem WG.trans {gb : Nat} {w w1 w2 : World} (h : WG gb w w1) (h' : WG gb w1 w2) : WG gb w w2 :=
 ⟨h'.os.trans h.os, h'.tape.trans h.tape, h'.output.trans h.output, Nat.le_trans h.size h'.size, fun k hk hb => (h'.low k (Nat.lt_of_lt_of_le hk h.size) hb).trans (h.low k hk hb), fun k E cs hE hk hr => h'.row k E cs hE hk (h.row k E cs hE hk hr)⟩
theorem WG.of {gb : Nat} {w w' : World} (h : Below w.heap.size w w') : WG gb w w' := ⟨h.os, h.tape, h.output, h.size, fun k hk _ => h.block k hk, fun _ _ _ _ _ hr => hr.below h⟩
theorem WG.own {gb : Nat} {w w' : World} {v : Value} {L : List UInt8} (ho : Own w (gb + 1) v L) (hg : w.grownBy w' v.ownBlock) : WG gb w w' :=
 ⟨hg.os, hg.tape, hg.output, hg.size, fun k hk hb => hg.block k hk (fun e => by have := (World.ownsRow.lt ho k e.symm).1; omega), fun _ _ _ hE _ hr => hr.grown hg (row_ne hr ho hE)⟩
theorem WG.set (gb : Nat) (w : World) (v : Value) : WG gb w (w.setCell ⟨gb, 0, none⟩ v) :=
 ⟨rfl, rfl, rfl, by simp, fun k _ hb => Below.heap_setCell _ _ _ _ (by show k ≠ gb; omega), fun _ _ _ _ hk hr => hr.other hk v⟩
theorem WG.below {gb base : Nat} {w0 w w' : World} (h : WG gb w w') (hb : Below base w0 w) (h1 : base ≤ gb) (h2 : base ≤ w.heap.size) : Below base w0 w' :=
 ⟨h.os.trans hb.os, h.tape.trans hb.tape, h.output.trans hb.output, Nat.le_trans hb.size h.size, fun k hk => (h.low k (by omega) (by omega)).trans (hb.block k hk)⟩
def Wr (w : World) (gb : Nat) (L : List UInt8) : Prop := ∃ a n c, RowAt w gb SBf [.slice a n c] ∧ Own w (gb + 1) (.slice a n c) L
def Wrote (gb : Nat) (L : List UInt8) (w : World) (e : Ending) (w' : World) : Prop := e = .returned (.tuple #[]) ∧ Wr w' gb L ∧ WG gb w w'
theorem Wr.below {w w' : World} {gb : Nat} {L : List UInt8} (h : Wr w gb L) (hb : Below w.heap.size w w') : Wr w' gb L := by
 obtain ⟨a, n, c, hr, ho⟩ := h
 exact ⟨a, n, c, hr.below hb, ho.below hb⟩
theorem wrote {w w1 w2 : World} {gb : Nat} {v0 : Value} {L M : List UInt8} {a a' : Option Addr} {n c n' c' : Nat} (hr : RowAt w1 gb SBf [v0]) (hg0 : WG gb w w1) (ho : Own w1 (gb + 1) (.slice a n c) L) (hg : w1.grownBy w2 (Value.slice a n c).ownBlock) (ho2 : Own w2 (gb + 1) (.slice a' n' c') M) :
  Wrote gb M w (.returned (.tuple #[])) (w2.setCell ⟨gb, 0, none⟩ (.slice a' n' c')) := by
 have hr2 := hr.grown hg (row_ne hr ho (by decide))
 exact ⟨rfl, ⟨_, _, _, hr2.set 0 _, (Own.toW ho2).kept (grown_set w2 gb 0 _) (by
  cases hb : (Value.slice a' n' c').ownBlock with
  | none => exact .inl rfl
  | some k => exact .inr (fun e => by have := (World.ownsRow.lt ho2 k hb).1; cases e; omega)) |>.ofW⟩, (hg0.trans (WG.own ho hg)).trans (WG.set gb w2 _)⟩

set_option maxRecDepth 100000 in
set_option maxHeartbeats 1000000 in
theorem wnum_any {w : World} {gb n : Nat} {L : List UInt8} (h : Wr w gb L) (hl : L.length ≤ 1000000000) (hn : n < 9223372036854775808) :
  Calls Tryd.prog 29 #[.int .i64 n, .pointer (some ⟨gb, 0, none⟩)] w (Wrote gb (L ++ numF n) w) := by
 obtain ⟨a, k, c, hr, ho⟩ := h
 have HR := Lib.hid hr
 have HO := Lib.hid ho
 have HL := Lib.hid hl
 have h9 := numF_length_le9 n (by omega)
 have H9 := Lib.hid h9
 clear hr ho hl h9
 go_enter Tryd.func29, Tryd.ntmps29
 go_wp2_with (first
  | (go_at_call 30; go_must (refine (put_any none 0 0 n [] _ (Bytes.nil _) hn (by simp)).mono ?_); rintro e w1 ⟨a1, n1, c1, rfl, ho1, hb1⟩; have HR1 := Lib.hid (HR.out.below hb1); have HO1 := Lib.hid (HO.out.below hb1); have HB1 := Lib.hid (ho1.isBytes); have HN1 := Lib.hid ho1.len; have HW1 := Lib.hid hb1; have c1x := HR1.out.cell 0 rfl; clear ho1 hb1)
  | (at_builtin; go_must (refine app_bytes rfl _ _ rfl (gb + 1) _ L rfl HO1.out _ n1 c1 _ rfl HB1.out (by have h1 := HL.out; have h2 := HN1.out; have h3 := H9.out; rw [List.nil_append] at h2; omega) HR1.out.lt ?_); intro v2 w2 ho2 hg2; obtain ⟨a2, n2, c2, rfl, _⟩ := ho2.bytes; have HO2 := Lib.hid ho2; have HG2 := Lib.hid hg2; have hr2 := HR1.out.grown hg2 (row_ne HR1.out HO1.out (by decide)); have c2x := hr2.cell 0 rfl; have f2x := hr2.free 0; clear ho2 hg2 hr2))
 exact bodyPost_end (results_none rfl _ _ _) rfl (wrote HR1.out (WG.of HW1.out) HO1.out HG2.out HO2.out)
end Go.Proofs.YthihmlojdopmfaaDoor

namespace Go.Proofs.YthihmlojdopmfaaDoor
open Go.RowKit

theorem wp_load_slot {w : World} {o : Oper} {a : Act} {K : Act → World → Prop} {Q : Exit → Act → World → Prop} (x : Operand) (ho : o.op = .load SBf x) (g : Nat) (hx : a.eval x = .pointer (some ⟨g, 0, none⟩)) {s : Option Addr} {n c : Nat} (hr : RowAt w g SBf [.slice s n c])
  (h : K (a.put o.dst (.slice s n c)) w) : o.wp Tryd.prog a w K Q := by
 have c0 := hr.cell 0 rfl
 have hrun : (execOp a.eval o).run Tryd.prog w = .ok (.value (.slice s n c)) w := by
  unfold execOp
  simp only [ho, hx, Instr.loadAt, Instr.sureAddr, Sem.run_bind, Sem.run_pure, Result.andThen_ok]
  go_simp
 unfold Oper.wp
 rw [hrun]
 exact h
set_option maxRecDepth 100000 in
set_option maxHeartbeats 1000000 in
theorem wtxt_any {w : World} {gb : Nat} {p : ByteArray} {L : List UInt8} (h : Wr w gb L) (hl : L.length ≤ 1000000000) (hp : p.size ≤ 1000000000) :
  Calls Tryd.prog 31 #[.string p, .pointer (some ⟨gb, 0, none⟩)] w (Wrote gb (L ++ ([] ++ (numF p.size ++ p.data.toList))) w) := by
 obtain ⟨a, k, c, hr, ho⟩ := h
 have HR := Lib.hid hr
 have HRd : Hid (RowAt w.drew gb SBf [.slice a k c]) := Lib.hid hr
 have HO := Lib.hid ho
 have HL := Lib.hid hl
 have HP : Hid (p.size ≤ 140737488351232) := Lib.hid (by omega)
 have HS : Hid ((numF p.size).length + p.data.toList.length ≤ 1000000009) := Lib.hid (by
  have h9 := numF_length_le9 p.size (by omega)
  have : p.data.toList.length = p.size := Array.length_toList
  omega)
 clear hr ho hl hp
 go_enter Tryd.func31, Tryd.ntmps31
 go_wp2
 refine wp_region_any (by kernel_rfl) ?_
 change wpAny _ _ _ _ _ _ _ (World.drew w)
 refine wpAny_take (i := 1) (oi := ⟨some 4, .move (.tmp 0), _, _, _, _⟩) (v := (.string p)) rfl (by kernel_rfl) (by kernel_rfl) (by kernel_rfl) (fun _ _ _ h => h) (Or.inl ⟨by rfl, fun W => by go_simp⟩) ?_
 simp only [Act.put, List.setIfInBounds_toArray, List.set_cons_zero, List.set_cons_succ]
 refine wpAny_ready (rs := [0, 2]) (by kernel_rfl) (by simp) ?_
 refine AllReady.cons (o := ⟨some 3, .load 28 (.tmp 1), _, _, _, _⟩) rfl (fun K hK => ?_) (AllReady.cons (o := ⟨some 5, .call { callee := .value (.func 32), args := #[(.const (.slice none 0 0)), (.tmp 4)], argTypes := #[28, 9] }, _, _, _, _⟩) rfl (fun K hK => ?_) AllReady.nil)
 ·have cx := HRd.out.cell 0 rfl
  refine ready_step ?_
  refine wp_load_slot (.tmp 1) rfl gb rfl HRd.out ?_
  refine hK _ _ ?_
  clear hK K
  try simp only [Act.put, List.setIfInBounds_toArray, List.set_cons_zero, List.set_cons_succ]
  refine wpAny_ready (rs := [2]) (by kernel_rfl) (by simp) ?_
  refine AllReady.cons (o := ⟨some 5, .call { callee := .value (.func 32), args := #[(.const (.slice none 0 0)), (.tmp 4)], argTypes := #[28, 9] }, _, _, _, _⟩) rfl (fun K hK => ?_) AllReady.nil
  go_simp
  refine (putText_any none 0 0 [] p _ (Bytes.nil _) HP.out (by have := HP.out; rw [List.length_nil]; omega)).mono ?_
  rintro e w1 ⟨a1, n1, c1, rfl, ho1, hb1⟩
  have HR1 := Lib.hid (RowAt.below (w := w.drew) HR.out hb1)
  have HO1 := Lib.hid (Own.below (w := w.drew) HO.out hb1)
  have HB1 := Lib.hid ho1.isBytes
  have HN1 := Lib.hid ho1.len
  have HW1 := Lib.hid ((Below.refl w.heap.size w).drew.trans hb1)
  clear ho1 hb1
  refine hK _ _ ?_
  clear hK K
  try simp only [Act.put, List.setIfInBounds_toArray, List.set_cons_zero, List.set_cons_succ]
  refine wpAny_ready (rs := [3]) (by kernel_rfl) (by simp) ?_
  refine AllReady.cons (o := ⟨some 6, .call { callee := .builtin .append, args := #[(.tmp 3), (.tmp 5)], argTypes := #[28, 28] }, _, _, _, _⟩) rfl (fun K hK => ?_) AllReady.nil
  refine ready_step (wp_appB (.tmp 3) (.tmp 5) rfl (gb + 1) _ L rfl HO1.out _ n1 _ _ rfl HB1.out (by have h1 := HL.out; have h2 := HN1.out; have h3 := HS.out; rw [List.nil_append, List.length_append] at h2; omega) HR1.out.lt ?_)
  intro a2 n2 c2 w2 ho2 hg2
  have HO2 := Lib.hid ho2
  have HG2 := Lib.hid hg2
  have HR2 := Lib.hid (HR1.out.grown hg2 (row_ne HR1.out HO1.out (by decide)))
  clear ho2 hg2
  refine hK _ _ ?_
  clear hK K
  try simp only [Act.put, List.setIfInBounds_toArray, List.set_cons_zero, List.set_cons_succ]
  refine wpAny_ready (rs := [4]) (by kernel_rfl) (by simp) ?_
  refine AllReady.cons (o := ⟨none, .store 28 (.tmp 1) (.tmp 6), _, _, _, _⟩) rfl (fun K hK => ?_) AllReady.nil
  refine ready_step (wp_store_slot (.tmp 1) (.tmp 6) rfl gb _ a2 n2 c2 rfl rfl HR2.out ?_)
  refine hK _ _ ?_
  clear hK K
  refine wpAny_done (by kernel_rfl) ?_ _
  exact bodyPost_end (results_none rfl _ _ _) rfl (wrote HR1.out (WG.of HW1.out) HO1.out HG2.out HO2.out)
 ·go_simp
  refine (putText_any none 0 0 [] p _ (Bytes.nil _) HP.out (by have := HP.out; rw [List.length_nil]; omega)).mono ?_
  rintro e w1 ⟨a1, n1, c1, rfl, ho1, hb1⟩
  have HR1 := Lib.hid (RowAt.below (w := w.drew) HR.out hb1)
  have HO1 := Lib.hid (Own.below (w := w.drew) HO.out hb1)
  have HB1 := Lib.hid ho1.isBytes
  have HN1 := Lib.hid ho1.len
  have HW1 := Lib.hid ((Below.refl w.heap.size w).drew.trans hb1)
  clear ho1 hb1
  refine hK _ _ ?_
  clear hK K
  try simp only [Act.put, List.setIfInBounds_toArray, List.set_cons_zero, List.set_cons_succ]
  refine wpAny_ready (rs := [0]) (by kernel_rfl) (by simp) ?_
  refine AllReady.cons (o := ⟨some 3, .load 28 (.tmp 1), _, _, _, _⟩) rfl (fun K hK => ?_) AllReady.nil
  have cx := HR1.out.cell 0 rfl
  refine ready_step ?_
  refine wp_load_slot (.tmp 1) rfl gb rfl HR1.out ?_
  refine hK _ _ ?_
  clear hK K
  try simp only [Act.put, List.setIfInBounds_toArray, List.set_cons_zero, List.set_cons_succ]
  refine wpAny_ready (rs := [3]) (by kernel_rfl) (by simp) ?_
  refine AllReady.cons (o := ⟨some 6, .call { callee := .builtin .append, args := #[(.tmp 3), (.tmp 5)], argTypes := #[28, 28] }, _, _, _, _⟩) rfl (fun K hK => ?_) AllReady.nil
  refine ready_step (wp_appB (.tmp 3) (.tmp 5) rfl (gb + 1) _ L rfl HO1.out _ n1 _ _ rfl HB1.out (by have h1 := HL.out; have h2 := HN1.out; have h3 := HS.out; rw [List.nil_append, List.length_append] at h2; omega) HR1.out.lt ?_)
  intro a2 n2 c2 w2 ho2 hg2
  have HO2 := Lib.hid ho2
  have HG2 := Lib.hid hg2
  have HR2 := Lib.hid (HR1.out.grown hg2 (row_ne HR1.out HO1.out (by decide)))
  clear ho2 hg2
  refine hK _ _ ?_
  clear hK K
  try simp only [Act.put, List.setIfInBounds_toArray, List.set_cons_zero, List.set_cons_succ]
  refine wpAny_ready (rs := [4]) (by kernel_rfl) (by simp) ?_
  refine AllReady.cons (o := ⟨none, .store 28 (.tmp 1) (.tmp 6), _, _, _, _⟩) rfl (fun K hK => ?_) AllReady.nil
  refine ready_step (wp_store_slot (.tmp 1) (.tmp 6) rfl gb _ a2 n2 c2 rfl rfl HR2.out ?_)
  refine hK _ _ ?_
  clear hK K
  refine wpAny_done (by kernel_rfl) ?_ _
  exact bodyPost_end (results_none rfl _ _ _) rfl (wrote HR1.out (WG.of HW1.out) HO1.out HG2.out HO2.out)
theorem wtext_any {w : World} {gb : Nat} {s : List UInt8} {L : List UInt8} (h : Wr w gb L) (hl : L.length ≤ 1000000000) (hs : s.length ≤ 1000000000) :
  Calls Tryd.prog 31 #[.string (strB s), .pointer (some ⟨gb, 0, none⟩)] w (Wrote gb (L ++ txtRf s) w) := by
 have e : txtRf s = [] ++ (numF (strB s).size ++ (strB s).data.toList) := by rw [strB_size, strB_list]; rfl
 rw [e]
 exact wtxt_any h hl (by rw [strB_size]; exact hs)
set_option maxRecDepth 100000 in
set_option maxHeartbeats 1000000 in
theorem wid_any {w : World} {gb : Nat} {i : List UInt8} {L : List UInt8} (h : Wr w gb L) (hl : L.length ≤ 1000000000) (hi : i.length = 32) :
  Calls Tryd.prog 33 #[.agg (idCells i), .pointer (some ⟨gb, 0, none⟩)] w (Wrote gb (L ++ i) w) := by
 obtain ⟨a, k, c, hr, ho⟩ := h
 obtain ⟨w1, hw1⟩ : ∃ W, w.alloc (.cells (idCells i) 24) = W := ⟨_, rfl⟩
 have hb : Below w.heap.size w w1 := hw1 ▸ (Below.refl _ _).alloc (Nat.le_refl _) _
 have HR1 : Hid (RowAt w1.drew gb SBf [.slice a k c]) := Lib.hid (hr.below hb.drew)
 have HO1 : Hid (Own w1.drew (gb + 1) (.slice a k c) L) := Lib.hid (ho.below hb.drew)
 have HB1 : Hid (Bytes w1.drew (some ⟨w.heap.size, 0, none⟩) 32 32 i) := Lib.hid (IdAt.bytes (w := w1.drew) (hw1 ▸ idAt_new w i hi))
 have HW1 : Hid (Below w.heap.size w w1.drew) := Lib.hid hb.drew
 have HL := Lib.hid hl
 have HW := Lib.hid hw1
 clear hr ho hl hb hw1
 go_enter Tryd.func33, Tryd.ntmps33
 go_wp2
 rw [HW.out]
 refine wp_region_any (by kernel_rfl) ?_
 change wpAny _ _ _ _ _ _ _ (World.drew w1)
 refine wpAny_take (i := 1) (oi := ⟨some 4, .slice 24 (.tmp 2) none none none, _, _, _, _⟩) (v := (.slice (some ⟨w.heap.size, 0, none⟩) 32 32)) rfl (by kernel_rfl) (by kernel_rfl) (by kernel_rfl) (fun _ _ _ h => h) (Or.inl ⟨by rfl, fun W => by go_simp⟩) ?_
 simp only [Act.put, List.setIfInBounds_toArray, List.set_cons_zero, List.set_cons_succ]
 refine wpAny_ready (rs := [0]) (by kernel_rfl) (by simp) ?_
 refine AllReady.cons (o := ⟨some 3, .load 28 (.tmp 1), _, _, _, _⟩) rfl (fun K hK => ?_) AllReady.nil
 have cx := HR1.out.cell 0 rfl
 refine ready_step ?_
 refine wp_load_slot (.tmp 1) rfl gb rfl HR1.out ?_
 refine hK _ _ ?_
 clear hK K
 try simp only [Act.put, List.setIfInBounds_toArray, List.set_cons_zero, List.set_cons_succ]
 refine wpAny_ready (rs := [2]) (by kernel_rfl) (by simp) ?_
 refine AllReady.cons (o := ⟨some 5, .call { callee := .builtin .append, args := #[(.tmp 3), (.tmp 4)], argTypes := #[28, 28] }, _, _, _, _⟩) rfl (fun K hK => ?_) AllReady.nil
 refine ready_step (wp_appB (.tmp 3) (.tmp 4) rfl (gb + 1) _ L rfl HO1.out _ 32 _ _ rfl HB1.out (by have h1 := HL.out; omega) HR1.out.lt ?_)
 intro a2 n2 c2 w2 ho2 hg2
 have HO2 := Lib.hid ho2
 have HG2 := Lib.hid hg2
 have HR2 := Lib.hid (HR1.out.grown hg2 (row_ne HR1.out HO1.out (by decide)))
 clear ho2 hg2
 refine hK _ _ ?_
 clear hK K
 try simp only [Act.put, List.setIfInBounds_toArray, List.set_cons_zero, List.set_cons_succ]
 refine wpAny_ready (rs := [3]) (by kernel_rfl) (by simp) ?_
 refine AllReady.cons (o := ⟨none, .store 28 (.tmp 1) (.tmp 5), _, _, _, _⟩) rfl (fun K hK => ?_) AllReady.nil
 refine ready_step (wp_store_slot (.tmp 1) (.tmp 5) rfl gb _ a2 n2 c2 rfl rfl HR2.out ?_)
 refine hK _ _ ?_
 clear hK K
 refine wpAny_done (by kernel_rfl) ?_ _
 exact bodyPost_end (results_none rfl _ _ _) rfl (wrote HR1.out (WG.of HW1.out) HO1.out HG2.out HO2.out)
end Go.Proofs.YthihmlojdopmfaaDoor
