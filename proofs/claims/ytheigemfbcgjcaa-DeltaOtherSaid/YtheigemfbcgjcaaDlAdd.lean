/-
  The walk of Make's second closure: a piece of the target added behind the delta.
-/
import Derived.Test.YtheigemfbcgjcaaDlNum
import Derived.Lib.AppendZeros
namespace Go.Proofs.Ytheigemfbcgjcaa
open Go.RowKit Go.Lib

/-- An append of bytes, in a region that is drawn. -/
theorem wp_appT {w : World} {o : Oper} {a : Act} {K : Act → World → Prop} {Q : Exit → Act → World → Prop} (s x : Operand)
    (ho : o.op = .call { callee := .builtin .append, args := #[s, x], argTypes := #[22, 22] })
    (base : Nat) (v : Value) (l : List UInt8) (hs : a.eval s = v) (hown : Own w base v l)
    (b off m c : Nat) (src : List UInt8) (hx : a.eval x = .slice (some ⟨b, off, none⟩) m c) (hsrc : Bytes w (some ⟨b, off, none⟩) m c src)
    (h48 : l.length + m ≤ 140737488355328) (hbase : base ≤ w.heap.size)
    (h : ∀ v' w', Own w' base v' (l ++ src) → w.grownBy w' v.ownBlock → Told w v v' → K (a.put o.dst v') w') : o.wp Try.prog a w K Q := by
  obtain ⟨i0, hi, hz0, hz1, hz2⟩ := info_parts Try.info5
  have h1 := hsrc.1
  have hnews : ∀ j u, (src.map B)[j]? = some u → w.cell? ((⟨b, off, none⟩ : Addr).add j) = some u := fun j u hu => by
    rw [List.getElem?_map] at hu
    have hj : j < src.length := by
      rcases Nat.lt_or_ge j src.length with h | h
      · exact h
      · rw [List.getElem?_eq_none h] at hu; cases hu
    have := bcell hsrc j (by omega)
    simp only [List.getElem?_eq_getElem hj, Option.map_some, Option.some.injEq] at hu
    subst hu
    rw [Addr.add_lit]
    simpa [B, hj] using this
  obtain ⟨v', w', hr, h5, h6, h7⟩ := run_append_tell (P := Try.prog) w base 22 o.type 5 i0 (.int .u8 0) 1 1 Try.underlying22 hi hz0 hz1 hz2 rfl (by decide) v l.length (l.map B) hown
    ⟨b, off, none⟩ m c (src.map B) (by simp [h1]) hnews (fun u hu => by obtain ⟨x, _, rfl⟩ := List.mem_map.1 hu; rfl) (by unfold maxLen; omega) (by omega) hbase
  refine Lib.wp_append_run w s x 22 22 ho _ _ hs hx _ _ hr (h v' w' ?_ h6 h7)
  unfold Own
  rw [List.length_append, List.map_append, h1]
  exact h5

section
variable {gd base B : Nat} {v : Value} {out : List UInt8} {w0 w w' : World}
theorem Step.below (h : Step gd v w w') (hD : DBox w gd base v out) (hb : Below B w0 w) (h1 : B ≤ gd) (h2 : B ≤ base) : Below B w0 w' :=
  ⟨h.os.trans hb.os, h.tape.trans hb.tape, h.output.trans hb.output, Nat.le_trans hb.size h.size, fun k hk => by
    rw [h.block k (by have := hD.le; omega) (by omega) (fun e => by have := hD.own.grown k e; omega)]
    exact hb.block k hk⟩
theorem Step.cell (h : Step gd v w w') (hD : DBox w gd base v out) {g j : Nat} (h1 : g < base) (h2 : g ≠ gd) : w'.cell? ⟨g, j, none⟩ = w.cell? ⟨g, j, none⟩ :=
  World.cell?_of_block (a := ⟨g, j, none⟩) (h.block g (by have := hD.le; omega) h2 (fun e => by have := hD.own.grown g e; omega))
theorem Step.refl (gd : Nat) (v : Value) (w : World) : Step gd v w w := ⟨rfl, rfl, rfl, Nat.le_refl _, fun _ _ _ _ => rfl⟩
/-- Two steps: the second one's own memory is the first one's, or new. -/
theorem Step.trans {w1 w2 : World} {v1 : Value} (h : Step gd v w w1) (h' : Step gd v1 w1 w2) (hk : ∀ k, k < w.heap.size → v.ownBlock ≠ some k → v1.ownBlock ≠ some k) : Step gd v w w2 :=
  ⟨h'.os.trans h.os, h'.tape.trans h.tape, h'.output.trans h.output, Nat.le_trans h.size h'.size, fun k h1 h2 h3 => by rw [h'.block k (Nat.lt_of_lt_of_le h1 h.size) h2 (hk k h1 h3)]; exact h.block k h1 h2 h3⟩
end
theorem bytes_mid {w : World} {n c x y b off : Nat} {l : List UInt8} (h : Bytes w (some ⟨b, off, none⟩) n c l) (hxy : x ≤ y) (hy : y ≤ n) : Bytes w (some ⟨b, off + x, none⟩) (y - x) (c - x) ((l.take y).drop x) := by
  have h1 := bytes_drop (bytes_take h hy) hxy
  exact h1
/-- What is told of the bytes that wait. -/
def addF (tgt : List UInt8) (x y : Nat) : List UInt8 := if x < y then numF (2 * (y - x)) ++ (tgt.take y).drop x else []
set_option maxRecDepth 100000 in
set_option maxHeartbeats 2000000 in
theorem add_no (g7 g6 g3 gd x y : Nat) (w : World) (c7 : w.cell? ⟨g7, 0, none⟩ = some (.int .i64 (x : Nat))) (hxy : ¬ x < y) :
    Calls Try.prog 18 #[.int .i64 (y : Nat), .pointer (some ⟨g7, 0, none⟩), .pointer (some ⟨g6, 0, none⟩), .pointer (some ⟨gd, 0, none⟩), .pointer (some ⟨g3, 0, none⟩)] w (fun e w' => e = .returned (.tuple #[]) ∧ w' = w) := by
  have hd : ¬ (x : Int) < (y : Int) := by omega
  clear hxy
  go_enter Try.func18, Try.ntmps18
  go_wp2
  refine bodyPost_end (results_none rfl _ _ _) rfl ?_
  exact ⟨rfl, rfl⟩
set_option maxRecDepth 100000 in
set_option maxHeartbeats 2000000 in
theorem add_any (g7 g6 g3 gd base x y nt ct bt ot : Nat) (v : Value) (out tgt : List UInt8) (w0 w : World) (h : DBox w gd base v out) (c7 : w.cell? ⟨g7, 0, none⟩ = some (.int .i64 (x : Nat))) (c6 : w.cell? ⟨g6, 0, none⟩ = some (.func (.func 16) #[] #[.pointer (some ⟨gd, 0, none⟩)])) (c3 : w.cell? ⟨g3, 0, none⟩ = some (.slice (some ⟨bt, ot, none⟩) nt ct))
    (ht : Bytes w0 (some ⟨bt, ot, none⟩) nt ct tgt) (hB : Below w0.heap.size w0 w) (hgd : w0.heap.size ≤ gd) (h7 : g7 < base ∧ g7 ≠ gd) (h6 : g6 < base ∧ g6 ≠ gd) (h3 : g3 < base ∧ g3 ≠ gd) (hxy : x < y) (hy : y ≤ nt) (hnt : nt ≤ 400000) (hl : out.length ≤ 4000000000) :
    Calls Try.prog 18 #[.int .i64 (y : Nat), .pointer (some ⟨g7, 0, none⟩), .pointer (some ⟨g6, 0, none⟩), .pointer (some ⟨gd, 0, none⟩), .pointer (some ⟨g3, 0, none⟩)] w (ToldIs gd base v w (out ++ (numF (2 * (y - x)) ++ (tgt.take y).drop x))) := by
  obtain ⟨d, hd⟩ : ∃ d, x + d = y := ⟨y - x, by omega⟩
  obtain ⟨d2, hd2⟩ : ∃ e, 2 * d = e := ⟨_, rfl⟩
  have e2 : 2 * (y - x) = d2 := by omega
  rw [e2]
  have hnl : (numF d2).length ≤ 9 := numF_length_le9 d2 (by omega)
  have HN := Lib.hid (num1_any gd base d2 v out w h (by omega) (by omega))
  have HX := Lib.hid h
  have HB := Lib.hid hB
  have HTG := Lib.hid ht
  have HG : Hid (w0.heap.size ≤ gd ∧ w0.heap.size ≤ base ∧ (g7 < base ∧ g7 ≠ gd) ∧ (g6 < base ∧ g6 ≠ gd) ∧ g3 < base ∧ g3 ≠ gd) := Lib.hid ⟨hgd, by have := h.lt; omega, h7, h6, h3⟩
  have HC : Hid (w.cell? ⟨g7, 0, none⟩ = some (.int .i64 (x : Nat)) ∧ w.cell? ⟨g3, 0, none⟩ = some (.slice (some ⟨bt, ot, none⟩) nt ct)) := Lib.hid ⟨c7, c3⟩
  have HL : Hid (out.length ≤ 4000000000 ∧ (numF d2).length ≤ 9 ∧ x < y ∧ y ≤ nt ∧ nt ≤ 400000) := Lib.hid ⟨hl, hnl, hxy, hy, hnt⟩
  have hd1 : (x : Int) < (y : Int) := by omega
  have W1 : IntKind.i64.wrap ((y : Int) - (x : Int)) = (d : Int) := by rw [IntWalk.i64_in _ (by omega)]; omega
  have W2 : IntKind.i64.wrap (2 * (d : Int)) = (d2 : Int) := by rw [IntWalk.i64_in _ (by omega)]; omega
  have hx0 : (0 : Int) ≤ (x : Int) := by omega
  have hxy1 : (x : Int) ≤ (y : Int) := by omega
  have hyc : (y : Int) ≤ (ct : Int) := by have := ht.2.1; omega
  have hyn : (y : Int) ≤ (nt : Int) := by omega
  obtain ⟨pl, hpl⟩ : ∃ e, y - x = e := ⟨_, rfl⟩
  obtain ⟨pc, hpc⟩ : ∃ e, ct - x = e := ⟨_, rfl⟩
  have hcx : ¬ ct = x := by have := ht.2.1; omega
  have hcx' : ¬ x = ct := by omega
  have HPL : Hid (y - x = pl ∧ ct - x = pc) := Lib.hid ⟨hpl, hpc⟩
  clear h hB ht hgd h7 h6 h3 hl hnl hxy hy hnt hd hd2 e2
  go_enter Try.func18, Try.ntmps18
  go_wp2_with ((go_at_call 16; (with_reducible refine HN.out.mono ?_); rintro e w1 ⟨rfl, v1, hD, hst, hto⟩; obtain ⟨a1, n1, k1, rfl, _⟩ := hD.own.bytes; have HD1 : Hid (DBox w1.drew gd base (.slice a1 n1 k1) (out ++ numF d2)) := Lib.hid ⟨hD.cell, hD.free, hD.own.drew, hD.lt, hD.le⟩; have HS1 : Hid (Step gd v w w1.drew) := Lib.hid ⟨hst.os, hst.tape, hst.output, hst.size, hst.block⟩; have HT1 := Lib.hid hto; have HCC : Hid (w1.drew.cell? ⟨g7, 0, none⟩ = some (.int .i64 (x : Nat)) ∧ w1.drew.cell? ⟨g3, 0, none⟩ = some (.slice (some ⟨bt, ot, none⟩) nt ct)) := Lib.hid ⟨(hst.cell HX.out HG.out.2.2.1.1 HG.out.2.2.1.2).trans HC.out.1, (hst.cell HX.out HG.out.2.2.2.2.1 HG.out.2.2.2.2.2).trans HC.out.2⟩; have HB1 : Hid (Below w0.heap.size w0 w1.drew) := Lib.hid (hst.below HX.out HB.out HG.out.1 HG.out.2.1).drew; clear hD hst hto))
  refine wp_region_held_drew (S := fun W => W.cell? ⟨g7, 0, none⟩ = some (.int .i64 (x : Nat)) ∧ W.cell? ⟨g3, 0, none⟩ = some (.slice (some ⟨bt, ot, none⟩) nt ct)) (by kernel_rfl) HCC.out (fun hHeld => ?_)
  generalize w1.drew = w2 at HD1 HCC HB1 HS1 hHeld ⊢
  refine wpAnyH_take (i := 1) (oi := ⟨some 16, .load 22 (.tmp 4), _, _, _, _⟩) (v := (.slice (some ⟨bt, ot, none⟩) nt ct)) rfl (by kernel_rfl) (by kernel_rfl) (by kernel_rfl) (fun _ _ _ h => h) (Or.inl ⟨by rfl, fun W hW => by have hcell := hW.2; go_simp⟩) (by assumption) ?_
  simp only [Act.put, List.setIfInBounds_toArray, List.set_cons_zero, List.set_cons_succ]
  refine wpAnyH_take (i := 2) (oi := ⟨some 17, .load 3 (.tmp 1), _, _, _, _⟩) (v := (.int .i64 (x : Nat))) rfl (by kernel_rfl) (by kernel_rfl) (by kernel_rfl) (fun _ _ _ h => h) (Or.inl ⟨by rfl, fun W hW => by have hcell := hW.1; go_simp⟩) (by assumption) ?_
  simp only [Act.put, List.setIfInBounds_toArray, List.set_cons_zero, List.set_cons_succ]
  refine wpAnyH_take (i := 3) (oi := ⟨some 18, .move (.tmp 0), _, _, _, _⟩) (v := (.int .i64 (y : Nat))) rfl (by kernel_rfl) (by kernel_rfl) (by kernel_rfl) (fun _ _ _ h => h) (Or.inl ⟨by rfl, fun W hW => by go_simp⟩) (by assumption) ?_
  simp only [Act.put, List.setIfInBounds_toArray, List.set_cons_zero, List.set_cons_succ]
  refine wpAnyH_take (i := 4) (oi := ⟨some 19, .slice 22 (.tmp 16) (some (.tmp 17)) (some (.tmp 18)) none, _, _, _, _⟩) (v := (.slice (some ⟨bt, ot + x, none⟩) pl pc)) rfl (by kernel_rfl) (by kernel_rfl) (by kernel_rfl) (fun _ _ _ h => h) (Or.inl ⟨by rfl, fun W hW => by go_simp⟩) (by assumption) ?_
  simp only [Act.put, List.setIfInBounds_toArray, List.set_cons_zero, List.set_cons_succ]
  refine wpAnyH_ready (rs := [0]) (by kernel_rfl) (by simp) ?_
  refine AllReadyH.cons (o := ⟨some 15, .load 22 (.tmp 3), _, _, _, _⟩) rfl (fun K hK => ?_) AllReadyH.nil
  have k1 := HD1.out.cell
  refine wready ?_
  go_simp
  clear k1
  refine hK.out _ _ hHeld (fun hHeld => ?_)
  clear hK K
  refine wpAnyH_ready (rs := [5]) (by kernel_rfl) (by simp) ?_
  refine AllReadyH.cons (o := ⟨some 20, .call { callee := .builtin .append, args := #[(.tmp 15), (.tmp 19)], argTypes := #[22, 22] }, _, _, _, _⟩) rfl (fun K hK => ?_) AllReadyH.nil
  have hg := HG.out
  have hll := HL.out
  have hn1 := HD1.out.own.len
  have hmid := bytes_mid (bytes_blocks HTG.out (fun k hk => HB1.out.block k hk) : Bytes w2 (some ⟨bt, ot, none⟩) nt ct tgt) (Nat.le_of_lt hll.2.2.1) hll.2.2.2.1
  rw [HPL.out.1, HPL.out.2] at hmid
  refine wready (wp_appT (.tmp 15) (.tmp 19) rfl base _ (out ++ numF d2) rfl HD1.out.own bt (ot + x) pl pc ((tgt.take y).drop x) rfl hmid (by have h1 := HPL.out.1; rw [List.length_append]; omega) HD1.out.le ?_)
  intro v3 w3 ho hgr hto
  obtain ⟨a3, n3, k3, rfl, _⟩ := ho.bytes
  have HO3 := Lib.hid ho
  have HG3 := Lib.hid hgr
  have HT3 := Lib.hid hto
  have hgd1 := World.block_lt_of_cell? _ _ HD1.out.cell
  have hne : ∀ g, g < base → some g ≠ (Value.slice a1 n1 k1).ownBlock := fun g h1 e => by have := HD1.out.own.grown g e.symm; omega
  have kk : ∀ g v, g < base → w2.cell? ⟨g, 0, none⟩ = some v → w3.cell? ⟨g, 0, none⟩ = some v := fun g v h1 h2 => (World.cell?_of_block (a := ⟨g, 0, none⟩) (hgr.block g (World.block_lt_of_cell? _ _ h2) (hne g h1))).trans h2
  have HC3 := Lib.hid (⟨kk gd _ HD1.out.lt HD1.out.cell, kk g7 _ hg.2.2.1.1 HCC.out.1, kk g3 _ hg.2.2.2.2.1 HCC.out.2⟩ : w3.cell? ⟨gd, 0, none⟩ = some (.slice a1 n1 k1) ∧ w3.cell? ⟨g7, 0, none⟩ = some (.int .i64 (x : Nat)) ∧ w3.cell? ⟨g3, 0, none⟩ = some (.slice (some ⟨bt, ot, none⟩) nt ct))
  have z3 : w3.frozen? ⟨gd, 0, none⟩ = false := by rw [World.frozen?_of_block (a := ⟨gd, 0, none⟩) (hgr.block gd hgd1 (hne gd HD1.out.lt))]; exact HD1.out.free
  clear ho hgr hto hgd1 hne kk hg hll hn1 hmid
  refine hK.out _ _ HC3.out.2 (fun hHeld => ?_)
  clear hK K
  refine wpAnyH_ready (rs := [6]) (by kernel_rfl) (by simp) ?_
  refine AllReadyH.cons (o := ⟨none, .store 22 (.tmp 3) (.tmp 20), _, _, _, _⟩) rfl (fun K hK => ?_) AllReadyH.nil
  have e3 := HC3.out.1
  refine wready ?_
  go_simp
  have hTI := told_store HD1.out (Below.refl _ _) HO3.out HG3.out HT3.out
  have HTI := Lib.hid hTI
  have hg := HG.out
  have HC4 := Lib.hid (⟨World.cell?_setCell_same (a := ⟨gd, 0, none⟩) (v := .slice a3 n3 k3) (h := e3), by rw [World.cell?_setCell_other (w := w3) (a := ⟨gd, 0, none⟩) (b := ⟨g7, 0, none⟩) (v := _) (h := fun e => hg.2.2.1.2 (by injection e with e1 _ _; exact e1.symm))]; exact HC3.out.2.1, by rw [World.cell?_setCell_other (w := w3) (a := ⟨gd, 0, none⟩) (b := ⟨g3, 0, none⟩) (v := _) (h := fun e => hg.2.2.2.2.2 (by injection e with e1 _ _; exact e1.symm))]; exact HC3.out.2.2⟩ : (w3.setCell ⟨gd, 0, none⟩ (.slice a3 n3 k3)).cell? ⟨gd, 0, none⟩ = some (.slice a3 n3 k3) ∧ (w3.setCell ⟨gd, 0, none⟩ (.slice a3 n3 k3)).cell? ⟨g7, 0, none⟩ = some (.int .i64 (x : Nat)) ∧ (w3.setCell ⟨gd, 0, none⟩ (.slice a3 n3 k3)).cell? ⟨g3, 0, none⟩ = some (.slice (some ⟨bt, ot, none⟩) nt ct))
  clear hTI hg e3
  refine hK.out _ _ HC4.out.2 (fun hHeld => ?_)
  clear hK K
  refine wpAnyH_done (by kernel_rfl) ?_ _
  clear hHeld
  go_wp2
  refine bodyPost_end (results_none rfl _ _ _) rfl ?_
  obtain ⟨_, v', hD', hs', ht'⟩ := HTI.out
  refine ⟨rfl, v', by rw [← List.append_assoc]; exact hD', HS1.out.trans hs' (fun k hk h1 h2 => ?_), ?_⟩
  · rcases HT1.out with e | ⟨k', e, hk'⟩
    · rw [e] at h2; exact h1 h2
    · rw [e] at h2; have := Option.some.inj h2; omega
  · rcases ht' with e | ⟨k', e, hk'⟩
    · rcases HT1.out with e1 | ⟨k', e1, hk'⟩
      · exact .inl (e.trans e1)
      · exact .inr ⟨k', e.trans e1, hk'⟩
    · exact .inr ⟨k', e, Nat.le_trans HS1.out.size hk'⟩
end Go.Proofs.Ytheigemfbcgjcaa
