/-
  What a call holds: slices of its own, none in a block of another one.
-/
import Derived.Test.YtemphljkfpkgmaaRfDiskAll
import Derived.Test.YtemphljkfpkgmaaTell
namespace Go.Proofs.Ytemphljkfpkgmaa
open Go.RowKit

structure Hold where
  E : TypeId
  k : Nat
  v : Value
  n : Nat
  cs : List Value
def Hold.At (w : World) (base : Nat) (h : Hold) : Prop := w.ownsRow base h.E h.k h.v h.n h.cs
structure Holds (w : World) (base : Nat) (L : List Hold) : Prop where
  own : ∀ h ∈ L, h.At w base
  two : L.Pairwise fun a b => Apart a.v b.v
section
variable {w w' : World} {base : Nat} {L L1 L2 : List Hold} {h h' : Hold}
theorem rows_below {E : TypeId} {k n : Nat} {v : Value} {cs : List Value} (h : w.ownsRow base E k v n cs) (hb : Below w.heap.size w w') : w'.ownsRow base E k v n cs := by
  obtain ⟨h1, h2⟩ := h
  refine ⟨h1, ?_⟩
  rcases h2 with h2 | ⟨g, cap, cur, hv, hg, hh, r⟩
  · exact .inl h2
  · refine .inr ⟨g, cap, cur, hv, hg, ?_, r⟩
    have hlt : g < w.heap.size := by
      rcases Nat.lt_or_ge g w.heap.size with h | h
      · exact h
      · rw [Array.getElem?_eq_none h] at hh; cases hh
    rw [hb.block g hlt]; exact hh
theorem rows_mono {E : TypeId} {k n base' : Nat} {v : Value} {cs : List Value} (h : w.ownsRow base E k v n cs) (hb : base' ≤ base) : w.ownsRow base' E k v n cs := by
  obtain ⟨h1, h2⟩ := h
  refine ⟨h1, ?_⟩
  rcases h2 with h2 | ⟨g, cap, cur, hv, hg, r⟩
  · exact .inl h2
  · exact .inr ⟨g, cap, cur, hv, by omega, r⟩
theorem Holds.lt (H : Holds w base L) (hm : h ∈ L) : ∀ k, h.v.ownBlock = some k → base ≤ k ∧ k < w.heap.size := World.ownsRow.lt (H.own h hm)
theorem Holds.nil : Holds w base [] := ⟨(fun _ h => by cases h), .nil⟩
theorem Holds.below (H : Holds w base L) (hb : Below w.heap.size w w') : Holds w' base L := ⟨fun h hm => rows_below (H.own h hm) hb, H.two⟩
theorem Holds.perm (H : Holds w base L) (hp : L.Perm L1) : Holds w base L1 := ⟨fun h hm => H.own h (hp.mem_iff.2 hm), (hp.pairwise_iff (fun {_ _} h => Apart.symm h)).1 H.two⟩
theorem Holds.sub (H : Holds w base L) (hs : L1.Sublist L) : Holds w base L1 := ⟨fun h hm => H.own h (hs.subset hm), H.two.sublist hs⟩
/-- One that was made anew. -/
theorem Holds.add (H : Holds w base L) (ho : h.At w' w.heap.size) (hb : Below w.heap.size w w') (hbase : base ≤ w.heap.size) : Holds w' base (h :: L) := by
  refine ⟨fun x hx => ?_, List.pairwise_cons.2 ⟨fun x hx k hk hxk => ?_, H.two⟩⟩
  · rcases List.mem_cons.1 hx with rfl | hx
    · exact rows_mono ho hbase
    · exact (H.below hb).own x hx
  · have h1 := (World.ownsRow.lt ho k hk).1
    have h2 := (H.lt hx k hxk).2
    omega
/-- One grew. -/
theorem Holds.put (H : Holds w base (h :: L)) (hg : w.grownBy w' h.v.ownBlock) (ho : h'.At w' base) (ht : Told w h.v h'.v) : Holds w' base (h' :: L) := by
  obtain ⟨h1, h2⟩ := List.pairwise_cons.1 H.two
  refine ⟨fun x hx => ?_, List.pairwise_cons.2 ⟨fun x hx => ?_, h2⟩⟩
  · rcases List.mem_cons.1 hx with rfl | hx
    · exact ho
    · exact World.ownsRow.kept (H.own x (List.mem_cons_of_mem _ hx)) hg (Apart.symm (h1 x hx)).kept
  · exact Apart.symm (Apart.told (Apart.symm (h1 x hx)) ht (fun k hk => (H.lt (List.mem_cons_of_mem _ hx) k hk).2))
end
/-- A slice of elements, a slice of bytes. -/
abbrev hG {α : Type} (K : Kind α) (E : TypeId) (v : Value) (L : List α) : Hold := ⟨E, K.k, v, L.length, flatG K L⟩
abbrev hB (x : BRow) : Hold := ⟨5, 1, x.v, x.l.length, x.l.map B⟩

theorem run_appG_told {α : Type} [Inhabited α] (K : Kind α) {T E : TypeId} {z : Value} {by_ : Nat} (ty : TypeId) (hU : Try.prog.underlying T = some (.slice E)) (hI : (Try.prog.info? E).map (fun i => (i.zero, i.size, i.bytes)) = some (some z, K.k, by_)) (hz : z.cells.size = K.k)
    (w : World) (base : Nat) (v : Value) (l : List α) (hown : OwnG K E w base v l) (sa : Option Addr) (m c : Nat) (src : List α) (hsrc : AtG K w sa m c src) (h48 : (l.length + m) * (by_ + 1) ≤ 140737488355328) (hbase : base ≤ w.heap.size) (r : Nat) (hr : r = l.length + m) :
    ∃ a' c' w', (Builtin.append_ #[T, T] ty #[v, .slice sa m c]).run Try.prog w = .ok (.slice a' r c') w' ∧ OwnG K E w' base (.slice a' r c') (l ++ src) ∧ w.grownBy w' v.ownBlock ∧ Told w v (.slice a' r c') := by
  obtain ⟨i0, hi, hz0, hz1, hz2⟩ := info_parts hI
  obtain ⟨h1, h2, h3, h5, h4⟩ := id hsrc
  have e48 : (l.length + m) * by_ ≤ 140737488355328 := Nat.le_trans (Nat.mul_le_mul_left _ (by omega)) h48
  have e63 : l.length + m ≤ 140737488355328 := Nat.le_trans (Nat.le_mul_of_pos_right _ (by omega)) h48
  have hW : ∀ y ∈ l ++ src, K.ok y := fun y hy => by
    rcases List.mem_append.1 hy with h | h
    · exact hown.2 y h
    · exact h5 y h
  have fin : ∀ v' w', (Builtin.append_ #[T, T] ty #[v, .slice sa m c]).run Try.prog w = .ok v' w' → OwnG K E w' base v' (l ++ src) → w.grownBy w' v.ownBlock → Told w v v' →
      ∃ a' c' w', (Builtin.append_ #[T, T] ty #[v, .slice sa m c]).run Try.prog w = .ok (.slice a' r c') w' ∧ OwnG K E w' base (.slice a' r c') (l ++ src) ∧ w.grownBy w' v.ownBlock ∧ Told w v (.slice a' r c') := by
    intro v' w' hrun hO hg ht
    obtain ⟨a', c', rfl, _⟩ := hO.atG_
    have e : (l ++ src).length = r := by rw [List.length_append, h1, hr]
    rw [e] at hO hrun ht
    exact ⟨a', c', w', hrun, hO, hg, ht⟩
  rcases h4 with ⟨rfl, rfl⟩ | ⟨b, off, rfl, hc⟩
  · have : src = [] := List.length_eq_zero_iff.1 h1
    subst this
    cases sa with
    | none => exact fin v w (run_append_owned_none (P := Try.prog) _ base T ty E i0 K.k hU hi _ _ _ hown.1) (by rw [List.append_nil]; exact hown) ⟨rfl, rfl, rfl, Nat.le_refl _, fun _ _ _ => rfl⟩ (.inl rfl)
    | some ad =>
      obtain ⟨v', w', hrun, h6, h7, h8⟩ := run_append_tell (P := Try.prog) w base T ty E i0 z K.k by_ hU hi hz0 hz1 hz2 hz K.pos _ _ _ hown.1 ad 0 0 [] (by simp) (by simp) (by simp) (by unfold maxLen; omega) (by simpa using e48) hbase
      exact fin v' w' hrun (by rw [List.append_nil]; exact ⟨by simpa using h6, hown.2⟩) h7 h8
  · obtain ⟨v', w', hrun, h6, h7, h8⟩ := run_append_tell (P := Try.prog) w base T ty E i0 z K.k by_ hU hi hz0 hz1 hz2 hz K.pos _ _ _ hown.1 ⟨b, off, none⟩ m c (flatG K src) (by rw [flatG_length K h5, h1]) (fun j u hu => by
      rw [Addr.add_lit]
      exact hsrc.pick j u hu) (flatG_one K h5) (by unfold maxLen; omega) e48 hbase
    refine fin v' w' hrun ⟨?_, hW⟩ h7 h8
    rw [List.length_append, flatG_append, h1]
    exact h6
theorem appG_told {α : Type} [Inhabited α] (K : Kind α) {T E : TypeId} {z : Value} {by_ : Nat} (hU : Try.prog.underlying T = some (.slice E)) (hI : (Try.prog.info? E).map (fun i => (i.zero, i.size, i.bytes)) = some (some z, K.k, by_)) (hz : z.cells.size = K.k)
    {w : World} {ops : Array Oper} {rest : List Oper} {o : Oper} {a : Act} {Q : Exit → Act → World → Prop} (hgd : o.guard = none) (s x : Operand)
    (ho : o.op = .call { callee := .builtin .append, args := #[s, x], argTypes := #[T, T] })
    (base : Nat) (v : Value) (l : List α) (hs : a.eval s = v) (hown : OwnG K E w base v l)
    (sa : Option Addr) (m c : Nat) (src : List α) (hx : a.eval x = .slice sa m c) (hsrc : AtG K w sa m c src)
    (h48 : (l.length + m) * (by_ + 1) ≤ 140737488355328) (hbase : base ≤ w.heap.size) (r : Nat) (hr : r = l.length + m)
    (h : ∀ a' c' w', OwnG K E w' base (.slice a' r c') (l ++ src) → w.grownBy w' v.ownBlock → Told w v (.slice a' r c') → wpList Try.prog ops Q rest (a.put o.dst (.slice a' r c')) w') : wpList Try.prog ops Q (o :: rest) a w := by
  obtain ⟨a', c', w', hrun, h1, h2, h3⟩ := run_appG_told K o.type hU hI hz w base v l hown sa m c src hsrc h48 hbase r hr
  exact wpList_plain hgd fun _ hK => Lib.wp_append_run _ s x _ _ ho _ _ hs hx _ _ hrun (hK _ _ (h a' c' w' h1 h2 h3))
#print axioms appG_told
end Go.Proofs.Ytemphljkfpkgmaa
