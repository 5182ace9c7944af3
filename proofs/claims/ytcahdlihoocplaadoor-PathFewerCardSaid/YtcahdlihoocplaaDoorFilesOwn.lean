/-
  Slices of files that the call made itself; an append; a copy.
-/
import Derived.Test.YtcahdlihoocplaaDoorFiles
namespace Go.Proofs.YtcahdlihoocplaaDoor
open Go.RowKit

def OwnF (w : World) (base : Nat) (v : Value) (L : List FileL) : Prop := w.ownsRow base 35 2 v L.length (fcells L)
theorem infoF : (Tryd.prog.info? 35).map (fun i => (i.zero, i.size, i.bytes)) = some (some (.agg #[St [], St []]), 2, 32) := by kernel_rfl

theorem fcells_pick {L : List FileL} {k : Nat} {u : Value} (h : (fcells L)[k]? = some u) : ∃ j, j < L.length ∧ ((k = j * 2 ∧ u = St (L.getD j default).1) ∨ (k = j * 2 + 1 ∧ u = St (L.getD j default).2)) := by
  have hk : k < L.length * 2 := by
    have := (List.getElem?_eq_some_iff.1 h).1
    rw [fcells_length] at this
    exact this
  have hj : k / 2 < L.length := by omega
  obtain ⟨h1, h2⟩ := fcells_at hj
  rcases (show k = k / 2 * 2 ∨ k = k / 2 * 2 + 1 by omega) with e | e
  · rw [← e] at h1
    rw [h1] at h
    exact ⟨k / 2, hj, .inl ⟨e, (Option.some.inj h).symm⟩⟩
  · rw [← e] at h2
    rw [h2] at h
    exact ⟨k / 2, hj, .inr ⟨e, (Option.some.inj h).symm⟩⟩
theorem FilesAt.pick {w : World} {b off n : Nat} {L : List FileL} (h1 : L.length = n) (hc : ∀ j, j < n → w.cell? ⟨b, off + j * 2, none⟩ = some (.string (strB (L.getD j default).1)) ∧ w.cell? ⟨b, off + j * 2 + 1, none⟩ = some (.string (strB (L.getD j default).2))) {k : Nat} {u : Value} (hu : (fcells L)[k]? = some u) : w.cell? ⟨b, off + k, none⟩ = some u := by
  obtain ⟨j, hj, ⟨rfl, rfl⟩ | ⟨rfl, rfl⟩⟩ := fcells_pick hu
  · exact (hc j (by omega)).1
  · exact (hc j (by omega)).2

section
variable {w w' : World} {base : Nat} {v : Value} {L : List FileL} {a : Option Addr} {n c : Nat}
theorem OwnF.nil : OwnF w base (.slice none 0 0) [] := World.ownsRow_nil _ _ _ _
theorem OwnF.files (h : OwnF w base v L) : ∃ a c, v = .slice a L.length c ∧ FilesAt w a L.length c L := by
  have h0' := h
  obtain ⟨h1, h2⟩ := h
  rcases h2 with ⟨rfl, hn⟩ | ⟨g, cap, cur, rfl, hb, hg, hn, hm, hs, ht⟩
  · have : L = [] := List.length_eq_zero_iff.1 hn
    subst this
    exact ⟨none, 0, rfl, FilesAt.nil⟩
  · refine ⟨_, _, rfl, rfl, hn, by unfold maxLen at hm; omega, .inr ⟨g, 0, rfl, fun j hj => ?_⟩⟩
    obtain ⟨e1, e2⟩ := fcells_at hj
    have c1 := h0'.cells (g := g) rfl _ _ e1
    have c2 := h0'.cells (g := g) rfl _ _ e2
    rw [Addr.add_lit] at c1 c2
    exact ⟨c1, c2⟩
theorem OwnF.isFiles (h : OwnF w base (.slice a n c) L) : FilesAt w a n c L := by
  obtain ⟨a', c', hv, hb⟩ := h.files
  simp only [Value.slice.injEq] at hv
  obtain ⟨rfl, rfl, rfl⟩ := hv
  exact hb
theorem OwnF.lt (h : OwnF w base v L) : ∀ k, v.ownBlock = some k → base ≤ k ∧ k < w.heap.size := fun k hk => World.ownsRow.lt h k hk
theorem OwnF.alloc (h : OwnF w base v L) (o : Obj) : OwnF (w.alloc o) base v L := World.ownsRow.alloc h o
theorem OwnF.mono {base' : Nat} (h : OwnF w base v L) (hb : base' ≤ base) : OwnF w base' v L := by
  obtain ⟨h1, h2⟩ := h
  refine ⟨h1, ?_⟩
  rcases h2 with h2 | ⟨g, cap, cur, hv, hg, r⟩
  · exact .inl h2
  · exact .inr ⟨g, cap, cur, hv, by omega, r⟩
theorem OwnF.below (h : OwnF w base v L) (hb : Below w.heap.size w w') : OwnF w' base v L := by
  obtain ⟨h1, h2⟩ := h
  refine ⟨h1, ?_⟩
  rcases h2 with h2 | ⟨g, cap, cur, hv, hg, hh, r⟩
  · exact .inl h2
  · refine .inr ⟨g, cap, cur, hv, hg, ?_, r⟩
    have hlt : g < w.heap.size := by
      rcases Nat.lt_or_ge g w.heap.size with h | h
      · exact h
      · rw [Array.getElem?_eq_none h] at hh; cases hh
    rw [hb.block g hlt]; exact hh
end

/-- A copy: all of a slice of files, appended to an empty one made anew. -/
theorem wl_copyFl {w : World} {ops : Array Oper} {rest : List Oper} {o : Oper} {a : Act} {Q : Exit → Act → World → Prop} (hw : Region.wanted o (yielded ops a.tmps) = true) (s x : Operand)
    (ho : o.op = .call { callee := .builtin .append, args := #[s, x], argTypes := #[33, 33] })
    (sa : Option Addr) (n c : Nat) (L : List FileL) (hs : a.eval s = .slice (some ⟨w.heap.size, 0, none⟩) 0 0) (hx : a.eval x = .slice sa n c) (hsrc : FilesAt w sa n c L) (hn : n ≤ 1000000000)
    (h : ∀ a' c' w', OwnF w' w.heap.size (.slice a' n c') L → Below w.heap.size w w' → wpList Tryd.prog ops Q rest (a.put o.dst (.slice a' n c')) w') : wpList Tryd.prog ops Q (o :: rest) a (w.alloc (.cells #[] 35)) := by
  have hbel : Below w.heap.size w (w.alloc (.cells #[] 35)) := (Below.refl _ _).alloc (Nat.le_refl _) _
  have hown : OwnF (w.alloc (.cells #[] 35)) w.heap.size (.slice (some ⟨w.heap.size, 0, none⟩) 0 0) [] := by
    refine ⟨rfl, .inr ⟨w.heap.size, 0, #[], rfl, Nat.le_refl _, heap_alloc_new w _, Nat.le_refl _, Nat.zero_le _, rfl, rfl⟩⟩
  have hsz : w.heap.size ≤ (w.alloc (.cells #[] 35)).heap.size := by simp
  obtain ⟨i0, hi, hz0, hz1, hz2⟩ := info_parts infoF
  obtain ⟨h1, h2, h3, h4⟩ := hsrc.below hbel
  have fin : ∀ v' w', (Builtin.append_ #[33, 33] o.type #[.slice (some ⟨w.heap.size, 0, none⟩) 0 0, .slice sa n c]).run Tryd.prog (w.alloc (.cells #[] 35)) = .ok v' w' →
      OwnF w' w.heap.size v' L → (w.alloc (.cells #[] 35)).grownBy w' (some w.heap.size) → wpList Tryd.prog ops Q (o :: rest) a (w.alloc (.cells #[] 35)) := by
    intro v' w' hr hO hg
    obtain ⟨a', c', rfl, hat⟩ := hO.files
    rw [h1] at hr hat hO
    unfold wpList
    rw [if_pos hw]
    refine .inl ?_
    exact Lib.wp_append_run _ s x _ _ ho _ _ hs hx _ _ hr (h a' c' w' hO (hbel.grown hg hsz (fun k hk => by cases hk; exact Nat.le_refl _)))
  rcases h4 with ⟨rfl, rfl⟩ | ⟨b, off, rfl, hc⟩
  · have : L = [] := List.length_eq_zero_iff.1 h1
    subst this
    cases sa with
    | none => exact fin _ _ (run_append_owned_none (P := Tryd.prog) _ w.heap.size 33 o.type 35 i0 2 Tryd.underlying33 hi _ 0 _ hown) hown ⟨rfl, rfl, rfl, Nat.le_refl _, fun _ _ _ => rfl⟩
    | some ad =>
      obtain ⟨v', w', hr, h5, h6, _⟩ := run_append_own (P := Tryd.prog) _ w.heap.size 33 o.type 35 i0 _ 2 32 Tryd.underlying33 hi hz0 hz1 hz2 rfl (by decide) _ 0 _ hown ad 0 0 [] (by simp) (by simp) (by simp) (by unfold maxLen; omega) (by omega) hsz
      exact fin v' w' hr h5 h6
  · obtain ⟨v', w', hr, h5, h6, _⟩ := run_append_own (P := Tryd.prog) _ w.heap.size 33 o.type 35 i0 _ 2 32 Tryd.underlying33 hi hz0 hz1 hz2 rfl (by decide) _ 0 _ hown ⟨b, off, none⟩ n c (fcells L) (by rw [fcells_length, h1]) (fun j u hu => by
      rw [Addr.add_lit]; exact FilesAt.pick h1 hc hu) (fcells_one L) (by unfold maxLen; omega) (by omega) hsz
    refine fin v' w' hr ?_ h6
    unfold OwnF
    have e : 0 + n = L.length := by omega
    rw [e] at h5
    exact h5
/-- One file in a block of its own, ahead of its append. -/
theorem one_file (w : World) (p q : ByteArray) : FilesAt (w.alloc (.cells #[.string p, .string q] 35)) (some ⟨w.heap.size, 0, none⟩) 1 1 [(p.data.toList, q.data.toList)] := by
  refine ⟨rfl, Nat.le_refl _, by omega, .inr ⟨_, _, rfl, fun j hj => ?_⟩⟩
  obtain rfl : j = 0 := by omega
  constructor
  · show _ = some (Value.string (strB p.data.toList))
    rw [strB_of]; simp
  · show _ = some (Value.string (strB q.data.toList))
    rw [strB_of]; simp

/-- An append to what is the call's own. -/
theorem app_files {w : World} {ops : Array Oper} {rest : List Oper} {o : Oper} {a : Act} {Q : Exit → Act → World → Prop} (hgd : o.guard = none) (s x : Operand)
    (ho : o.op = .call { callee := .builtin .append, args := #[s, x], argTypes := #[33, 33] })
    (base : Nat) (v : Value) (l : List FileL) (hs : a.eval s = v) (hown : OwnF w base v l)
    (b off m c : Nat) (src : List FileL) (hx : a.eval x = .slice (some ⟨b, off, none⟩) m c) (hsrc : FilesAt w (some ⟨b, off, none⟩) m c src)
    (h48 : (l.length + m) * 32 ≤ 140737488355328) (hbase : base ≤ w.heap.size) (r : Nat) (hr : r = l.length + m)
    (h : ∀ a' c' w', OwnF w' base (.slice a' r c') (l ++ src) → w.grownBy w' v.ownBlock → wpList Tryd.prog ops Q rest (a.put o.dst (.slice a' r c')) w') : wpList Tryd.prog ops Q (o :: rest) a w := by
  obtain ⟨i0, hi, hz0, hz1, hz2⟩ := info_parts infoF
  have h1 := hsrc.1
  have h2 := hsrc.2.1
  refine wpList_append_own w hgd s x 33 ho base 35 i0 (.agg #[St [], St []]) 2 32 Tryd.underlying33 hi hz0 hz1 hz2 rfl (by decide) v l.length (fcells l) hs hown
    ⟨b, off, none⟩ m c (fcells src) hx (by rw [fcells_length, h1]) (fun j u hu => by rw [Addr.add_lit]; exact FilesAt.pick h1 (fun j hj => hsrc.cell j hj) hu) (fcells_one src) (by have := hsrc.2.2.1; unfold maxLen; omega) (by omega) hbase ?_
  intro v' w' h5 h6 _
  have hO : OwnF w' base v' (l ++ src) := by
    unfold OwnF
    rw [List.length_append, fcells_append, h1]
    exact h5
  obtain ⟨a', c', rfl, _⟩ := hO.files
  have e : (l ++ src).length = r := by rw [List.length_append, h1, hr]
  rw [e] at hO ⊢
  exact h a' c' w' hO h6
#print axioms wl_copyFl
end Go.Proofs.YtcahdlihoocplaaDoor
