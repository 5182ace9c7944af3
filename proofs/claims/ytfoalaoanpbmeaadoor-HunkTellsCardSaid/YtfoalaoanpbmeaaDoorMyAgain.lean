/-
  The lists that are made again: what lies where.
-/
import Derived.Test.YtfoalaoanpbmeaaDoorMyFind
import Derived.Test.YtfoalaoanpbmeaaDoorSliceG
namespace Go.Proofs.YtfoalaoanpbmeaaDoor
open Go.RowKit Go.Maps My

/-- A list, as it lies and what it is. -/
structure LV where
  low : Int
  a : Option Addr
  n : Nat
  c : Nat
  l : List Int
instance : Inhabited LV := ⟨⟨0, none, 0, 0, []⟩⟩
def lvK : Kind LV := ⟨fun x => lstC x.low x.a x.n x.c, 2, fun _ => True, by decide, fun _ _ => rfl, fun x _ v hv => lstC_one _ _ _ _ v hv⟩
theorem lvInfo : (Tryd.prog.info? 132).map (fun i => (i.zero, i.size, i.bytes)) = some (some (.agg #[.int .i64 0, .slice none 0 0]), 2, 32) := by kernel_rfl
/-- A finder after the search: what was there, the row, the lists made again. -/
structure Ag (w0 wb : World) (g pf pt pn pm pa pb kb : Nat) (A B : List Int) (aa ab : Option Addr) (ca cb : Nat) (fa : Option Addr) (ga : Option Addr) (gn gc : Nat) (fr : Int) (AL : List LV) (f : Nat) (c0 : Int) (W : World) : Prop where
  same : ∀ b, b < wb.heap.size → b ≠ g → W.heap[b]? = wb.heap[b]?
  below : Below w0.heap.size w0 W
  size : wb.heap.size ≤ W.heap.size
  row : RowAt W g 150 (finC A.length B.length 0 fa 1 1 (nextV pf pt pn pm) kb ga gn gc fr)
  own : OwnG lvK 132 W wb.heap.size (.slice ga gn gc) AL
  each : ∀ t, t < AL.length → Lst W (gd AL t).a (gd AL t).n (gd AL t).c (gd AL t).l ∧ My.Good (eq2 A B) A.length B.length (f + t) (gd AL t).low (gd AL t).l ∧ Comp (eq2 A B) A.length B.length (f + t) (gd AL t).low (gd AL t).l (c0 - 64 + t) (c0 + 64 - t)
  lt : g < wb.heap.size ∧ w0.heap.size ≤ g ∧ w0.heap.size ≤ wb.heap.size
/-- What a search left. -/
structure Base (w0 wb : World) (g pf pt pn pm pa pb kb : Nat) (A B : List Int) (aa ab : Option Addr) (ca cb : Nat) (fa : Option Addr) (k : Nat) : Prop where
  fin : FinAt wb g pf pt pn pm pa pb kb A B aa ab ca cb fa 1 1 none 0 0 0
  kept : KeptTo wb (eq2 A B) A.length B.length kb k (dist A B + 1)
  below : Below w0.heap.size w0 wb
  few : k ≤ 100000
  ge : w0.heap.size ≤ g
section
variable {w0 wb : World} {g pf pt pn pm pa pb kb : Nat} {A B : List Int} {aa ab : Option Addr} {ca cb : Nat} {fa ga : Option Addr} {gn gc : Nat} {fr : Int} {AL : List LV} {f k : Nat} {c0 : Int} {W W' : World}
theorem nextV_no (pf pt pn pm : Nat) : ∀ z, nextV pf pt pn pm ≠ .int .i32 z := fun z => by simp
theorem Runs.same {a : Option Addr} {n c : Nat} {l : List Int} (h : Runs wb a n c l) {t : TypeId} {cs : List Value} (hr : RowAt wb g t cs) (hn : NoR cs) (hs : ∀ b, b < wb.heap.size → b ≠ g → W.heap[b]? = wb.heap[b]?) : Runs W a n c l := by
  obtain ⟨h1, h2, h3, h4⟩ := h
  refine ⟨h1, h2, h3, ?_⟩
  rcases h4 with h4 | ⟨b, off, ha, hc⟩
  · exact .inl h4
  · exact .inr ⟨b, off, ha, fun j hj => (cell_same (hs b (World.block_lt_of_cell? _ _ (hc j hj)) (Runs.off hr hn (hc j hj)).symm)).trans (hc j hj)⟩
theorem Lst.same {a : Option Addr} {n c : Nat} {l : List Int} (h : Lst wb a n c l) {t : TypeId} {cs : List Value} (hr : RowAt wb g t cs) (hn : NoR cs) (ht : t ≠ 21) (hs : ∀ b, b < wb.heap.size → b ≠ g → W.heap[b]? = wb.heap[b]?) : Lst W a n c l := by
  refine ⟨fun b off e => ?_, h.runs.same hr hn hs, h.small, h.few⟩
  obtain ⟨cs', fr, h1⟩ := h.typed b off e
  refine ⟨cs', fr, (hs b (h.typed.lt e) (fun e2 => ?_)).trans h1⟩
  subst e2
  have hr2 : wb.heap[b]? = some (.cells cs.toArray t (0, 0)) := hr
  rw [hr2] at h1
  simp only [Option.some.injEq, Obj.cells.injEq] at h1
  exact ht h1.2.1
theorem Base.noR (_ : Base w0 wb g pf pt pn pm pa pb kb A B aa ab ca cb fa k) : NoR (finC A.length B.length 0 fa 1 1 (nextV pf pt pn pm) kb none 0 0 0) := noR_fin _ _ _ _ _ _ _ _ _ _ _ _ (nextV_no _ _ _ _)
theorem Base.keptAt (h : Base w0 wb g pf pt pn pm pa pb kb A B aa ab ca cb fa k) (hs : ∀ b, b < wb.heap.size → b ≠ g → W.heap[b]? = wb.heap[b]?) : KeptTo W (eq2 A B) A.length B.length kb k (dist A B + 1) := by
  have hne := h.fin.ne.2.2.2.2.2.2.1
  obtain ⟨D, h1, h2⟩ := h.kept
  have hlt := h1.lt
  obtain ⟨es, cl, h3, h4⟩ := h1
  exact ⟨D, ⟨es, cl, (hs kb hlt hne).trans h3, h4⟩, fun e he hl => by
    obtain ⟨low, b, off, k, c, l, e1, e2, e3⟩ := h2 e he hl
    exact ⟨low, b, off, k, c, l, e1, e2.same h.fin.row h.noR (by decide) hs, e3⟩⟩
theorem Ag.kept (h : Ag w0 wb g pf pt pn pm pa pb kb A B aa ab ca cb fa ga gn gc fr AL f c0 W) (hB : Base w0 wb g pf pt pn pm pa pb kb A B aa ab ca cb fa k) : KeptTo W (eq2 A B) A.length B.length kb k (dist A B + 1) := hB.keptAt h.same
theorem Ag.both (h : Ag w0 wb g pf pt pn pm pa pb kb A B aa ab ca cb fa ga gn gc fr AL f c0 W) (hB : Base w0 wb g pf pt pn pm pa pb kb A B aa ab ca cb fa k) : Both W g pf pt pn pm pa pb A B aa ab ca cb := by
  have hF := hB.fin
  obtain ⟨n1, n2, n3, n4, n5, n6, n7, _⟩ := hF.ne
  have c : ∀ {b : Nat} {v : Value}, wb.cell? ⟨b, 0, none⟩ = some v → b ≠ g → W.cell? ⟨b, 0, none⟩ = some v := fun hc hne => (cell_same (h.same _ (World.block_lt_of_cell? _ _ hc) hne)).trans hc
  exact ⟨⟨c hF.caught.n n3, c hF.caught.m n4, c hF.caught.a n5, c hF.caught.b n6, hF.caught.ra.same hF.row hB.noR h.same, hF.caught.rb.same hF.row hB.noR h.same⟩, c hF.f n1, c hF.t n2, h.row.cell 0 rfl, h.row.cell 1 rfl⟩
theorem Ag.on (h : Ag w0 wb g pf pt pn pm pa pb kb A B aa ab ca cb fa ga gn gc fr AL f c0 W) (hb : Below W.heap.size W W') : Ag w0 wb g pf pt pn pm pa pb kb A B aa ab ca cb fa ga gn gc fr AL f c0 W' :=
  ⟨fun b h1 h2 => (hb.block b (by have := h.size; omega)).trans (h.same b h1 h2), h.below.trans (hb.mono (by have := h.lt; have := h.size; omega)), by have := h.size; have := hb.size; omega, h.row.below hb, h.own.below hb, fun t ht => ⟨(h.each t ht).1.below hb, (h.each t ht).2⟩, h.lt⟩
/-- The row written: other lists, another number. -/
theorem Ag.make {fr0 : Int} {ga0 : Option Addr} {gn0 gc0 : Nat} (hsame : ∀ b, b < wb.heap.size → b ≠ g → W.heap[b]? = wb.heap[b]?) (hbelow : Below w0.heap.size w0 W) (hsize : wb.heap.size ≤ W.heap.size) (hrow : RowAt W g 150 (finC A.length B.length 0 fa 1 1 (nextV pf pt pn pm) kb ga0 gn0 gc0 fr0)) (hlt : g < wb.heap.size ∧ w0.heap.size ≤ g ∧ w0.heap.size ≤ wb.heap.size)
    {ga' : Option Addr} {gn' gc' : Nat} {fr' : Int} {AL' : List LV} {f' : Nat} {c0' : Int} (o : Nat) (u : Value)
    (hr : (finC A.length B.length 0 fa 1 1 (nextV pf pt pn pm) kb ga0 gn0 gc0 fr0).set o u = finC A.length B.length 0 fa 1 1 (nextV pf pt pn pm) kb ga' gn' gc' fr')
    (ho : OwnG lvK 132 W wb.heap.size (.slice ga' gn' gc') AL')
    (he : ∀ t, t < AL'.length → Lst W (gd AL' t).a (gd AL' t).n (gd AL' t).c (gd AL' t).l ∧ My.Good (eq2 A B) A.length B.length (f' + t) (gd AL' t).low (gd AL' t).l ∧ Comp (eq2 A B) A.length B.length (f' + t) (gd AL' t).low (gd AL' t).l (c0' - 64 + t) (c0' + 64 - t)) :
    Ag w0 wb g pf pt pn pm pa pb kb A B aa ab ca cb fa ga' gn' gc' fr' AL' f' c0' (W.setCell ⟨g, o, none⟩ u) := by
  refine ⟨fun b h1 h2 => (Below.heap_setCell _ _ _ _ h2).trans (hsame b h1 h2), hbelow.setCell (by show w0.heap.size ≤ g; omega) _, by rw [show (W.setCell ⟨g, o, none⟩ u).heap.size = W.heap.size by simp [World.setCell]]; exact hsize, ?_, ?_, fun t ht => ⟨(he t ht).1.row hrow (noR_fin _ _ _ _ _ _ _ _ _ _ _ _ (nextV_no _ _ _ _)) (by decide) u, (he t ht).2⟩, hlt⟩
  · have := hrow.set o u
    rw [hr] at this
    exact this
  · obtain ⟨⟨o1, o2⟩, o3⟩ := ho
    refine ⟨⟨o1, ?_⟩, o3⟩
    rcases o2 with o2 | ⟨b, cap, cur, hv, hb, hh, r⟩
    · exact .inl o2
    · refine .inr ⟨b, cap, cur, hv, hb, ?_, r⟩
      rw [Below.heap_setCell _ _ _ _ (by show b ≠ g; omega)]; exact hh
theorem Ag.set (h : Ag w0 wb g pf pt pn pm pa pb kb A B aa ab ca cb fa ga gn gc fr AL f c0 W) {ga' : Option Addr} {gn' gc' : Nat} {fr' : Int} {AL' : List LV} {f' : Nat} {c0' : Int} (o : Nat) (u : Value)
    (hr : (finC A.length B.length 0 fa 1 1 (nextV pf pt pn pm) kb ga gn gc fr).set o u = finC A.length B.length 0 fa 1 1 (nextV pf pt pn pm) kb ga' gn' gc' fr')
    (ho : OwnG lvK 132 W wb.heap.size (.slice ga' gn' gc') AL')
    (he : ∀ t, t < AL'.length → Lst W (gd AL' t).a (gd AL' t).n (gd AL' t).c (gd AL' t).l ∧ My.Good (eq2 A B) A.length B.length (f' + t) (gd AL' t).low (gd AL' t).l ∧ Comp (eq2 A B) A.length B.length (f' + t) (gd AL' t).low (gd AL' t).l (c0' - 64 + t) (c0' + 64 - t)) :
    Ag w0 wb g pf pt pn pm pa pb kb A B aa ab ca cb fa ga' gn' gc' fr' AL' f' c0' (W.setCell ⟨g, o, none⟩ u) := Ag.make h.same h.below h.size h.row h.lt o u hr ho he
/-- The row of lists grown. -/
theorem Ag.grown (h : Ag w0 wb g pf pt pn pm pa pb kb A B aa ab ca cb fa ga gn gc fr AL f c0 W) (hg : W.grownBy W' (Value.slice ga gn gc).ownBlock) :
    (∀ b, b < wb.heap.size → b ≠ g → W'.heap[b]? = wb.heap[b]?) ∧ Below w0.heap.size w0 W' ∧ wb.heap.size ≤ W'.heap.size ∧ RowAt W' g 150 (finC A.length B.length 0 fa 1 1 (nextV pf pt pn pm) kb ga gn gc fr) ∧ (∀ {a : Option Addr} {n c : Nat} {l : List Int}, Lst W a n c l → Lst W' a n c l) := by
  have hlt := h.lt
  have hown : ∀ k, (Value.slice ga gn gc).ownBlock = some k → wb.heap.size ≤ k := fun k hk => (h.own.lt k hk).1
  have hty : ∀ k, (Value.slice ga gn gc).ownBlock = some k → ∃ cur fr, W.heap[k]? = some (.cells cur 132 fr) := fun k hk => by
    obtain ⟨⟨_, o2⟩, _⟩ := h.own
    rcases o2 with ⟨hv, _⟩ | ⟨b, cap, cur, hv, hb, hh, r⟩
    · rw [hv] at hk; cases hk
    · rw [hv] at hk; cases hk; exact ⟨_, _, hh⟩
  have blk : ∀ b, b < W.heap.size → (∀ k, (Value.slice ga gn gc).ownBlock = some k → b ≠ k) → W'.heap[b]? = W.heap[b]? := fun b hb hne => hg.block b hb (fun e => hne b e.symm rfl)
  refine ⟨fun b h1 h2 => (blk b (by have := h.size; omega) (fun k hk => by have := hown k hk; omega)).trans (h.same b h1 h2), h.below.grown hg (by have := h.size; omega) (fun k hk => by have := hown k hk; omega), by have := h.size; have := hg.size; omega, ?_, fun {a n c l} hl => ?_⟩
  · have := blk g (by have := h.size; omega) (fun k hk => by have := hown k hk; omega)
    exact this.trans h.row
  · have key : ∀ b off, a = some ⟨b, off, none⟩ → W'.heap[b]? = W.heap[b]? := fun b off e => blk b (hl.typed.lt e) (fun k hk e2 => by
      obtain ⟨cs, fr, h1⟩ := hl.typed b off e
      obtain ⟨cur, fr2, h2⟩ := hty k hk
      rw [← e2, h1] at h2
      simp only [Option.some.injEq, Obj.cells.injEq] at h2
      exact absurd h2.2.1 (by decide))
    refine ⟨fun b off e => ?_, ?_, hl.small, hl.few⟩
    · obtain ⟨cs, fr, h1⟩ := hl.typed b off e
      exact ⟨cs, fr, (key b off e).trans h1⟩
    · obtain ⟨h1, h2, h3, h4⟩ := hl.runs
      refine ⟨h1, h2, h3, ?_⟩
      rcases h4 with h4 | ⟨b, off, ha, hc⟩
      · exact .inl h4
      · exact .inr ⟨b, off, ha, fun j hj => (cell_same (key b off ha)).trans (hc j hj)⟩
/-- Its lists are not the box for what is handed back. -/
theorem Ag.neBox (h : Ag w0 wb g pf pt pn pm pa pb kb A B aa ab ca cb fa ga gn gc fr AL f c0 W) (hne : AL ≠ []) {b : Nat} {t : TypeId} (hb : RowAt W b t (lstC 0 none 0 0)) : (Value.slice ga gn gc).ownBlock ≠ some b := by
  intro e
  have hpos : 0 < AL.length := List.length_pos_iff.2 hne
  have hn := h.own.len
  obtain ⟨gA, hga, _, _, _⟩ := h.own.row (by omega)
  subst hga
  have e2 : gA = b := Option.some.inj e
  subst e2
  have h1 := h.own.atG.at_ 0 (by omega) 1 (.slice (gd AL 0).a (gd AL 0).n (gd AL 0).c) rfl
  rw [Nat.zero_mul, Nat.zero_add] at h1
  have h2 := hb.cell 1 rfl
  rw [h2] at h1
  obtain ⟨b', off, hs⟩ := (h.each 0 hpos).1.some_ (h.each 0 hpos).2.1.pos
  rw [hs] at h1
  simp at h1
/-- The box for what is handed back is written. -/
theorem Ag.box (h : Ag w0 wb g pf pt pn pm pa pb kb A B aa ab ca cb fa ga gn gc fr AL f c0 W) (hne : AL ≠ []) {b : Nat} (hb : RowAt W b 132 (lstC 0 none 0 0)) (hg : W.grownBy W' (some b)) (hlt : wb.heap.size ≤ b) : Ag w0 wb g pf pt pn pm pa pb kb A B aa ab ca cb fa ga gn gc fr AL f c0 W' := by
  have hl := h.lt
  have hs := h.size
  refine ⟨fun k h1 h2 => (hg.block k (by omega) (fun e => by have := Option.some.inj e; omega)).trans (h.same k h1 h2), h.below.grown hg (by omega) (fun k hk => by cases hk; omega), by have := hg.size; omega, h.row.grown hg (fun e => by have := Option.some.inj e; omega), h.own.kept hg (.inr (h.neBox hne hb)), fun t ht => ⟨(h.each t ht).1.rows hb (noR_lst _ _ _ _) (by decide) hg, (h.each t ht).2⟩, hl⟩
end
#print axioms Ag.grown
end Go.Proofs.YtfoalaoanpbmeaaDoor
