/-
  The lists that are kept: a map from numbers of edits; a slice of runes beside a map, beside the finder.
-/
import Derived.Test.YtfoalaoanpbmeaaDoorMyNew
namespace Go.Proofs.YtfoalaoanpbmeaaDoor
open Go.RowKit Go.Maps My

def lstD (low : Int) (b off n c : Nat) : DataW Unit := .agg [.lit (.int .i64 low), .lit (.int .i64 (b : Int)), .lit (.int .i64 (off : Int)), .lit (.int .i64 (n : Int)), .lit (.int .i64 (c : Int))]
/-- A list as a datum: where it lies. -/
def lstElem (v : Value) : Option (DataW Unit × List MemPlace) :=
  match v with
  | .agg cs => match cs.toList with
    | [.int .i64 low, .slice (some a) n c] => if a.spot = none then some (lstD low a.block a.off n c, []) else none
    | [.int .i64 0, .slice none 0 0] => some (.nil, [])
    | _ => none
  | _ => none
theorem lstElem_mk (low : Int) (b off n c : Nat) : lstElem (.agg #[.int .i64 low, .slice (some ⟨b, off, none⟩) n c]) = some (lstD low b off n c, []) := rfl
theorem lstElem_inv {v : Value} {low : Int} {b off n c : Nat} {ps : List MemPlace} (h : lstElem v = some (lstD low b off n c, ps)) : v = .agg #[.int .i64 low, .slice (some ⟨b, off, none⟩) n c] := by
  unfold lstElem at h
  split at h
  · rename_i cs
    split at h
    · rename_i low' a n' c' hcs
      split at h
      · rename_i hs
        obtain ⟨b', off', sp⟩ := a
        simp only at hs
        subst hs
        simp only [lstD, Option.some.injEq, Prod.mk.injEq, DataW.agg.injEq, List.cons.injEq, DataW.lit.injEq, Lit.int.injEq, true_and, and_true] at h
        obtain ⟨⟨h1, h2, h3, h4, h5⟩, _⟩ := h
        obtain rfl : b' = b := by omega
        obtain rfl : off' = off := by omega
        obtain rfl : n' = n := by omega
        obtain rfl : c' = c := by omega
        subst h1
        congr 1
        exact Array.toList_inj.1 hcs
      · cases h
    · simp [lstD] at h
    · cases h
  · cases h
theorem lawI : Keyed Tryd.prog 3 := int_keyed Tryd.underlying3
theorem zeroL (w : World) : (zeroValue 132).run Tryd.prog w = .ok (.agg #[.int .i64 0, .slice none 0 0]) w := by kernel_rfl
theorem keyI {e : Nat} (h : e ≤ 100000) : keyOf Tryd.prog 3 (.int .i64 (e : Int)) = some (.int .i64 (e : Int)) := keyOf_int_mk Tryd.underlying3 (WalkArith.wf_i64 (by omega))
section
variable {w w' : World} {a : Option Addr} {n c : Nat} {l : List Int}
/-- Runes beside a map that is written. -/
theorem Runs.beside (h : Runs w a n c l) {kb : Nat} {es : Array MapEntry} {cl : Nat} (hk : w.heap[kb]? = some (.map es cl)) (hg : w.grownBy w' (some kb)) : Runs w' a n c l := by
  obtain ⟨h1, h2, h3, h4⟩ := h
  refine ⟨h1, h2, h3, ?_⟩
  rcases h4 with h4 | ⟨b, off, ha, hc⟩
  · exact .inl h4
  · refine .inr ⟨b, off, ha, fun j hj => ?_⟩
    have hcj := hc j hj
    have hlt := World.block_lt_of_cell? _ _ hcj
    rw [cell_same (hg.block b hlt (fun e => by
      have e2 := Option.some.inj e
      subst e2
      simp [World.cell?, hk] at hcj))]
    exact hcj
/-- A row without runes. -/
def NoR (cs : List Value) : Prop := ∀ v ∈ cs, ∀ z, v ≠ .int .i32 z
theorem noR_lst (low : Int) (a : Option Addr) (n c : Nat) : NoR (lstC low a n c) := fun v hv z => by
  simp only [List.mem_cons, List.not_mem_nil, or_false] at hv
  rcases hv with rfl | rfl <;> simp
theorem noR_fin (n m low : Int) (fa : Option Addr) (fn fc : Nat) (nv : Value) (kb : Nat) (ga : Option Addr) (gn gc : Nat) (fr : Int) (h : ∀ z, nv ≠ .int .i32 z) : NoR (finC n m low fa fn fc nv kb ga gn gc fr) := fun v hv z => by
  simp only [List.mem_cons, List.not_mem_nil, or_false] at hv
  rcases hv with rfl | rfl | rfl | rfl | rfl | rfl | rfl | rfl
  all_goals first | exact h z | simp
theorem Runs.off {b off g j : Nat} {t : TypeId} {cs : List Value} (hr : RowAt w g t cs) (hn : NoR cs) {z : Int} (hc : w.cell? ⟨b, off + j, none⟩ = some (.int .i32 z)) : g ≠ b := by
  intro e
  subst e
  have hg : w.heap[g]? = some (.cells cs.toArray t (0, 0)) := hr
  simp only [World.cell?, hg] at hc
  have hm : Value.int .i32 z ∈ cs := by
    have h2 : cs[off + j]? = some (.int .i32 z) := by simpa using hc
    exact List.mem_of_getElem? h2
  exact hn _ hm z rfl
/-- Runes beside a row that is written. -/
theorem Runs.row (h : Runs w a n c l) {g o : Nat} {t : TypeId} {cs : List Value} (hr : RowAt w g t cs) (hn : NoR cs) (u : Value) : Runs (w.setCell ⟨g, o, none⟩ u) a n c l := by
  obtain ⟨h1, h2, h3, h4⟩ := h
  refine ⟨h1, h2, h3, ?_⟩
  rcases h4 with h4 | ⟨b, off, ha, hc⟩
  · exact .inl h4
  · exact .inr ⟨b, off, ha, fun j hj => cell_other (hc j hj) u (Runs.off hr hn (hc j hj))⟩
theorem Runs.rows (h : Runs w a n c l) {g : Nat} {t : TypeId} {cs : List Value} (hr : RowAt w g t cs) (hn : NoR cs) (hg : w.grownBy w' (some g)) : Runs w' a n c l := by
  obtain ⟨h1, h2, h3, h4⟩ := h
  refine ⟨h1, h2, h3, ?_⟩
  rcases h4 with h4 | ⟨b, off, ha, hc⟩
  · exact .inl h4
  · exact .inr ⟨b, off, ha, fun j hj => (cell_same (hg.block b (World.block_lt_of_cell? _ _ (hc j hj)) (fun e => Runs.off hr hn (hc j hj) (Option.some.inj e).symm))).trans (hc j hj)⟩
theorem RBlock.grown (h : RBlock w a) {k : Nat} (hk : ∀ cs fr, w.heap[k]? ≠ some (.cells cs 21 fr)) (hg : w.grownBy w' (some k)) : RBlock w' a := fun b off e => by
  obtain ⟨cs, fr, h1⟩ := h b off e
  exact ⟨cs, fr, (hg.block b (h.lt e) (fun e2 => by have e3 := Option.some.inj e2; subst e3; exact hk _ _ h1)).trans h1⟩
theorem RBlock.beside (h : RBlock w a) {kb : Nat} {es : Array MapEntry} {cl : Nat} (hk : w.heap[kb]? = some (.map es cl)) (hg : w.grownBy w' (some kb)) : RBlock w' a := h.grown (fun cs fr e => by rw [hk] at e; cases e) hg
theorem RBlock.rows (h : RBlock w a) {g : Nat} {t : TypeId} {cs : List Value} (hr : RowAt w g t cs) (ht : t ≠ 21) (hg : w.grownBy w' (some g)) : RBlock w' a := h.grown (fun cs' fr e => by
  have hr2 : w.heap[g]? = some (.cells cs.toArray t (0, 0)) := hr
  rw [hr2] at e
  simp only [Option.some.injEq, Obj.cells.injEq] at e
  exact ht e.2.1) hg
theorem RBlock.row (h : RBlock w a) {g o : Nat} {t : TypeId} {cs : List Value} (hr : RowAt w g t cs) (ht : t ≠ 21) (u : Value) : RBlock (w.setCell ⟨g, o, none⟩ u) a := fun b off e => by
  obtain ⟨cs', fr, h1⟩ := h b off e
  refine ⟨cs', fr, (Below.heap_setCell _ _ _ _ (fun e2 => ?_)).trans h1⟩
  have e3 : b = g := e2
  subst e3
  have hr2 : w.heap[b]? = some (.cells cs.toArray t (0, 0)) := hr
  rw [hr2] at h1
  simp only [Option.some.injEq, Obj.cells.injEq] at h1
  exact ht h1.2.1
theorem Lst.beside (h : Lst w a n c l) {kb : Nat} {es : Array MapEntry} {cl : Nat} (hk : w.heap[kb]? = some (.map es cl)) (hg : w.grownBy w' (some kb)) : Lst w' a n c l := ⟨h.typed.beside hk hg, h.runs.beside hk hg, h.small, h.few⟩
theorem Lst.row (h : Lst w a n c l) {g o : Nat} {t : TypeId} {cs : List Value} (hr : RowAt w g t cs) (hn : NoR cs) (ht : t ≠ 21) (u : Value) : Lst (w.setCell ⟨g, o, none⟩ u) a n c l := ⟨h.typed.row hr ht u, h.runs.row hr hn u, h.small, h.few⟩
theorem Lst.rows (h : Lst w a n c l) {g : Nat} {t : TypeId} {cs : List Value} (hr : RowAt w g t cs) (hn : NoR cs) (ht : t ≠ 21) (hg : w.grownBy w' (some g)) : Lst w' a n c l := ⟨h.typed.rows hr ht hg, h.runs.rows hr hn hg, h.small, h.few⟩
theorem Lst.some_ (h : Lst w a n c l) (hl : 0 < l.length) : ∃ b off, a = some ⟨b, off, none⟩ := by
  rcases h.runs.2.2.2 with ⟨h0, _⟩ | ⟨b, off, ha, _⟩
  · have := h.runs.1; omega
  · exact ⟨b, off, ha⟩
end
/-- One that is kept: where it lies, what it is. -/
def KeptOne (w : World) (E : Nat → Nat → Bool) (n m e : Nat) (d : DataW Unit) : Prop := ∃ (low : Int) (b off k c : Nat) (l : List Int), d = lstD low b off k c ∧ Lst w (some ⟨b, off, none⟩) k c l ∧ My.Good E n m e low l ∧ ∀ A B, Comp E n m e low l A B
/-- Each 64th is kept, up to a number of edits. -/
def KeptTo (w : World) (E : Nat → Nat → Bool) (n m kb k lim : Nat) : Prop := ∃ D, w.ownsMap Tryd.prog 3 lstElem kb k D ∧ ∀ e, e % 64 = 0 → e < lim → KeptOne w E n m e (D.atKey (.int .i64 (e : Int)) .nil)
section
variable {w w' : World} {E : Nat → Nat → Bool} {n m kb k lim : Nat}
theorem KeptTo.map (h : KeptTo w E n m kb k lim) : ∃ es cl, w.heap[kb]? = some (.map es cl) := by
  obtain ⟨D, ⟨es, cl, h1, _⟩, _⟩ := h
  exact ⟨es, cl, h1⟩
theorem KeptTo.below (h : KeptTo w E n m kb k lim) (hb : Below w.heap.size w w') : KeptTo w' E n m kb k lim := by
  obtain ⟨D, h1, h2⟩ := h
  have hlt := h1.lt
  obtain ⟨es, cl, h3, h4⟩ := h1
  exact ⟨D, ⟨es, cl, (hb.block kb hlt).trans h3, h4⟩, fun e he hl => by
    obtain ⟨low, b, off, k, c, l, e1, e2, e3⟩ := h2 e he hl
    exact ⟨low, b, off, k, c, l, e1, e2.below hb, e3⟩⟩
theorem KeptTo.row (h : KeptTo w E n m kb k lim) {g o : Nat} {t : TypeId} {cs : List Value} (hr : RowAt w g t cs) (hn : NoR cs) (ht : t ≠ 21) (u : Value) : KeptTo (w.setCell ⟨g, o, none⟩ u) E n m kb k lim := by
  obtain ⟨es0, cl0, hm⟩ := h.map
  have hne : kb ≠ g := fun e => by
    subst e
    have hg : w.heap[kb]? = some (.cells cs.toArray t (0, 0)) := hr
    rw [hg] at hm; cases hm
  obtain ⟨D, ⟨es, cl, h3, h4⟩, h2⟩ := h
  exact ⟨D, ⟨es, cl, (Below.heap_setCell _ _ _ _ hne).trans h3, h4⟩, fun e he hl => by
    obtain ⟨low, b, off, k, c, l, e1, e2, e3⟩ := h2 e he hl
    exact ⟨low, b, off, k, c, l, e1, e2.row hr hn ht u, e3⟩⟩
theorem KeptTo.rows (h : KeptTo w E n m kb k lim) {g : Nat} {t : TypeId} {cs : List Value} (hr : RowAt w g t cs) (hn : NoR cs) (ht : t ≠ 21) (hg : w.grownBy w' (some g)) : KeptTo w' E n m kb k lim := by
  obtain ⟨es0, cl0, hm⟩ := h.map
  have hne : kb ≠ g := fun e => by
    subst e
    have hg : w.heap[kb]? = some (.cells cs.toArray t (0, 0)) := hr
    rw [hg] at hm; cases hm
  obtain ⟨D, h1, h2⟩ := h
  have hlt := h1.lt
  obtain ⟨es, cl, h3, h4⟩ := h1
  exact ⟨D, ⟨es, cl, (hg.block kb hlt (fun e => hne (Option.some.inj e))).trans h3, h4⟩, fun e he hl => by
    obtain ⟨low, b, off, k, c, l, e1, e2, e3⟩ := h2 e he hl
    exact ⟨low, b, off, k, c, l, e1, e2.rows hr hn ht hg, e3⟩⟩
section
variable {g pf pt pn pm pa pb : Nat} {A B : List Int} {aa ab fa ga : Option Addr} {ca cb fn fc gn gc : Nat} {fr : Int}
theorem FinAt.below (h : FinAt w g pf pt pn pm pa pb kb A B aa ab ca cb fa fn fc ga gn gc fr) (hb : Below w.heap.size w w') : FinAt w' g pf pt pn pm pa pb kb A B aa ab ca cb fa fn fc ga gn gc fr := ⟨h.row.below hb, h.caught.below hb, cell_below h.f hb, cell_below h.t hb, h.ne⟩
/-- Beside the map, beside another row. -/
theorem FinAt.beside (h : FinAt w g pf pt pn pm pa pb kb A B aa ab ca cb fa fn fc ga gn gc fr) {es : Array MapEntry} {cl : Nat} (hk : w.heap[kb]? = some (.map es cl)) (hg : w.grownBy w' (some kb)) : FinAt w' g pf pt pn pm pa pb kb A B aa ab ca cb fa fn fc ga gn gc fr := by
  have k : ∀ {b : Nat} {v : Value}, w.cell? ⟨b, 0, none⟩ = some v → b ≠ kb → w'.cell? ⟨b, 0, none⟩ = some v := fun hc hne => (cell_same (hg.block _ (World.block_lt_of_cell? _ _ hc) (fun e => hne (Option.some.inj e)))).trans hc
  obtain ⟨n1, n2, n3, n4, n5, n6, n7, n8, n9, n10, n11, n12, n13⟩ := h.ne
  exact ⟨h.row.grown hg (fun e => n7 (Option.some.inj e).symm), ⟨k h.caught.n n10, k h.caught.m n11, k h.caught.a n12, k h.caught.b n13, h.caught.ra.beside hk hg, h.caught.rb.beside hk hg⟩, k h.f n8, k h.t n9, h.ne⟩
theorem FinAt.rows (h : FinAt w g pf pt pn pm pa pb kb A B aa ab ca cb fa fn fc ga gn gc fr) {g3 : Nat} {t : TypeId} {cs : List Value} (hr : RowAt w g3 t cs) (hn : NoR cs) (hg : w.grownBy w' (some g3)) (hne : g3 ≠ g ∧ g3 ≠ pf ∧ g3 ≠ pt ∧ g3 ≠ pn ∧ g3 ≠ pm ∧ g3 ≠ pa ∧ g3 ≠ pb) : FinAt w' g pf pt pn pm pa pb kb A B aa ab ca cb fa fn fc ga gn gc fr := by
  have k : ∀ {b : Nat} {v : Value}, w.cell? ⟨b, 0, none⟩ = some v → g3 ≠ b → w'.cell? ⟨b, 0, none⟩ = some v := fun hc hne => (cell_same (hg.block _ (World.block_lt_of_cell? _ _ hc) (fun e => hne (Option.some.inj e).symm))).trans hc
  obtain ⟨n1, n2, n3, n4, n5, n6, n7⟩ := hne
  exact ⟨h.row.grown hg (fun e => n1 (Option.some.inj e).symm), ⟨k h.caught.n n4, k h.caught.m n5, k h.caught.a n6, k h.caught.b n7, h.caught.ra.rows hr hn hg, h.caught.rb.rows hr hn hg⟩, k h.f n2, k h.t n3, h.ne⟩
theorem FinAt.both (h : FinAt w g pf pt pn pm pa pb kb A B aa ab ca cb fa fn fc ga gn gc fr) : Both w g pf pt pn pm pa pb A B aa ab ca cb := ⟨h.caught, h.f, h.t, h.row.cell 0 rfl, h.row.cell 1 rfl⟩
end
theorem kept_none (h : w.heap[kb]? = some (.map #[] 0)) : KeptTo w E n m kb 0 0 := by
  refine ⟨.map [], ?_, fun e _ hl => by omega⟩
  obtain ⟨es, cl, h1, h2⟩ := World.ownsMap_made (P := Tryd.prog) (k := 3) (R := lstElem) w
  have e1 : (w.alloc (.map #[] 0)).heap[w.heap.size]? = some (.map #[] 0) := Array.getElem?_push_size
  rw [e1] at h1
  have h5 := Option.some.inj h1
  cases h5
  exact ⟨#[], 0, h, h2⟩
/-- f.kept[edits] = l, at the operation. -/
theorem wl_keep {ops : Array Oper} {rest : List Oper} {o : Oper} {a : Act} {Q : Exit → Act → World → Prop} (hgd : o.guard = none) (mo x v : Operand) (hop : o.op = Op.mapUpdate 146 mo x v)
    (h : KeptTo w E n m kb k lim) (hk : k ≤ 100000) (hm : a.eval mo = .map (some kb)) (e : Nat) (he : e ≤ 100000) (hx : a.eval x = .int .i64 (e : Int)) (low : Int) (b off ln c : Nat) (l : List Int) (hv : a.eval v = .agg #[.int .i64 low, .slice (some ⟨b, off, none⟩) ln c])
    (hl : Lst w (some ⟨b, off, none⟩) ln c l) (hG : My.Good E n m e low l) (hC : ∀ A B, Comp E n m e low l A B)
    (hlim : ∀ x, x % 64 = 0 → x < e + 1 → x ≠ e → x < lim)
    (hK : ∀ w', KeptTo w' E n m kb (k + 1) (e + 1) → w.grownBy w' (some kb) → wpList Tryd.prog ops Q rest (a.put o.dst undef) w') : wpList Tryd.prog ops Q (o :: rest) a w := by
  obtain ⟨es, cl, hmap⟩ := h.map
  obtain ⟨D, h1, h2⟩ := h
  refine wpList_mapUpdate_own w hgd mo x v 146 hop 3 132 lawI Tryd.underlying146 lstElem kb k D hm h1 (by unfold maxLen; omega) _ _ _ hx hv (keyI he) _ [] (lstElem_mk _ _ _ _ _) ?_
  intro w' h4 h5
  refine hK w' ⟨_, h4, fun x hx1 hx2 => ?_⟩ h5
  by_cases hxe : x = e
  · subst hxe
    rw [atKey_put_same h1.isMap (by trivial)]
    exact ⟨low, b, off, ln, c, l, rfl, hl.beside hmap h5, hG, hC⟩
  · rw [atKey_put_other (by
      intro h
      have h2 : (x : Int) = (e : Int) := by simpa using h
      omega)]
    obtain ⟨low, b, off, k, c, l, e1, e2, e3⟩ := h2 x hx1 (hlim x hx1 hx2 hxe)
    exact ⟨low, b, off, k, c, l, e1, e2.beside hmap h5, e3⟩
/-- f.kept[from], at the operation. -/
theorem wl_kept {ops : Array Oper} {rest : List Oper} {o : Oper} {a : Act} {Q : Exit → Act → World → Prop} (hgd : o.guard = none) (mo x : Operand) (hop : o.op = Op.lookup 146 mo x false)
    (h : KeptTo w E n m kb k lim) (hm : a.eval mo = .map (some kb)) (e : Nat) (he : e ≤ 100000) (hx : a.eval x = .int .i64 (e : Int)) (h64 : e % 64 = 0) (hlt : e < lim)
    (hK : ∀ (low : Int) (b off ln c : Nat) (l : List Int), Lst w (some ⟨b, off, none⟩) ln c l → My.Good E n m e low l → (∀ A B, Comp E n m e low l A B) → wpList Tryd.prog ops Q rest (a.put o.dst (.agg #[.int .i64 low, .slice (some ⟨b, off, none⟩) ln c])) w) : wpList Tryd.prog ops Q (o :: rest) a w := by
  obtain ⟨D, h1, h2⟩ := h
  obtain ⟨v, ps, hrun, hv⟩ := h1.lookup (t := 146) (e := 132) lawI Tryd.underlying146 (zeroL w) (z := .agg #[.int .i64 0, .slice none 0 0]) (zd := .nil) (zp := []) rfl (keyI he)
  obtain ⟨low, b, off, ln, c, l, e1, e2, e3, e4⟩ := h2 e h64 hlt
  rw [e1] at hv
  obtain rfl := lstElem_inv hv
  refine wpList_plain hgd fun K' hK' => ?_
  unfold Oper.wp
  simp [execOp, hop, hm, hx, hrun, Result.andThen]
  exact hK' _ _ (hK low b off ln c l e2 e3 e4)
end
#print axioms wl_kept
end Go.Proofs.YtfoalaoanpbmeaaDoor
