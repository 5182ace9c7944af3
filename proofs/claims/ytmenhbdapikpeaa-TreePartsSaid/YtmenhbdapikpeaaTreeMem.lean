/-
  Slices of elements in memory: one that can be read, one that the call made itself; an append; a slice that was copied.
-/
import Derived.Test.YtmenhbdapikpeaaKeysAt
import Derived.Test.YtmenhbdapikpeaaTreeOrd
import Derived.Maps.OwnSet
import Derived.Lib.AppendZeros
import Derived.Laws.OwnMore
namespace Go.Proofs.Ytmenhbdapikpeaa
open Go.RowKit

/-- An element's cells. -/
def nodeL (x : NodeV) : List Value := keyL x.k ++ [.int .i64 x.p, .int .i32 x.r, .bool x.d]
def nodeC (x : NodeV) : Array Value := (nodeL x).toArray
/-- An element as Go has it: 32 bytes of a change, a key that a map takes. -/
def NdOk (x : NodeV) : Prop := x.k.c.length = 32 ∧ ∃ l, keyOf Try.prog 41 (.agg (keyC x.k)) = some l
theorem nodeL_length {x : NodeV} (h : NdOk x) : (nodeL x).length = 37 := by simp [nodeL, keyL_length h.1]
def nflat (L : List NodeV) : List Value := L.flatMap nodeL
theorem nflat_length {L : List NodeV} (h : ∀ x ∈ L, NdOk x) : (nflat L).length = L.length * 37 := by
  induction L with
  | nil => rfl
  | cons k T ih =>
    have h1 := nodeL_length (h k (by simp))
    have h2 := ih (fun x hx => h x (List.mem_cons_of_mem _ hx))
    unfold nflat at *
    rw [List.flatMap_cons, List.length_append, h1, h2, List.length_cons]
    omega
theorem nflat_append (L M : List NodeV) : nflat (L ++ M) = nflat L ++ nflat M := by simp [nflat]
theorem nflat_at {L : List NodeV} (h : ∀ x ∈ L, NdOk x) : ∀ (j i : Nat), j < L.length → i < 37 → (nflat L)[j * 37 + i]? = (nodeL (nd L j))[i]? := by
  induction L with
  | nil => intro j i hj; simp at hj
  | cons k T ih =>
    intro j i hj hi
    have h1 := nodeL_length (h k (by simp))
    have e : nflat (k :: T) = nodeL k ++ nflat T := rfl
    rw [e]
    cases j with
    | zero =>
      rw [Nat.zero_mul, Nat.zero_add, List.getElem?_append_left (by omega)]
      rfl
    | succ j =>
      rw [List.getElem?_append_right (by omega), h1, show (j + 1) * 37 + i - 37 = j * 37 + i from by omega]
      rw [ih (fun x hx => h x (List.mem_cons_of_mem _ hx)) j i (by simpa using hj) hi]
      rfl
theorem nflat_one (L : List NodeV) : ∀ v ∈ nflat L, v.oneCell' = true := fun v hv => by
  obtain ⟨x, _, hx⟩ := List.mem_flatMap.1 hv
  unfold nodeL keyL at hx
  simp only [List.mem_cons, List.mem_append, List.mem_map, List.not_mem_nil, or_false] at hx
  rcases hx with (rfl | ⟨b, _, rfl⟩ | rfl) | rfl | rfl | rfl <;> rfl

/-- A slice value reads as these elements. -/
def NodesAt (w : World) (a : Option Addr) (n c : Nat) (L : List NodeV) : Prop :=
  L.length = n ∧ n ≤ c ∧ c ≤ 9223372036854775807 ∧ (∀ x ∈ L, NdOk x) ∧ ((n = 0 ∧ c = 0) ∨ ∃ b off, a = some ⟨b, off, none⟩ ∧ ∀ j, j < n → w.rangeAt b (off + j * 37) (nodeL (nd L j)))
theorem nd_ok {L : List NodeV} (h : ∀ x ∈ L, NdOk x) {j : Nat} (hj : j < L.length) : NdOk (nd L j) := h _ (nd_mem hj)
section
variable {w w' : World} {a : Option Addr} {n c : Nat} {L : List NodeV}
theorem NodesAt.nil : NodesAt w none 0 0 [] := ⟨rfl, Nat.le_refl _, by omega, (fun _ h => by cases h), .inl ⟨rfl, rfl⟩⟩
theorem NodesAt.some_ (h : NodesAt w a n c L) (hn : 0 < n) : ∃ b off, a = some ⟨b, off, none⟩ := by
  rcases h.2.2.2.2 with ⟨h0, _⟩ | ⟨b, off, ha, _⟩
  · omega
  · exact ⟨b, off, ha⟩
theorem NodesAt.at_ {b off : Nat} (h : NodesAt w (some ⟨b, off, none⟩) n c L) (j : Nat) (hj : j < n) : w.rangeAt b (off + j * 37) (nodeL (nd L j)) := by
  rcases h.2.2.2.2 with ⟨h0, _⟩ | ⟨b', off', ha, hc⟩
  · omega
  · simp only [Option.some.injEq, Addr.mk.injEq, and_true] at ha
    obtain ⟨rfl, rfl⟩ := ha
    exact hc j hj
theorem NodesAt.below (h : NodesAt w a n c L) (hb : Below w.heap.size w w') : NodesAt w' a n c L := by
  obtain ⟨h1, h2, h3, h5, h4⟩ := h
  refine ⟨h1, h2, h3, h5, ?_⟩
  rcases h4 with h4 | ⟨b, off, ha, hc⟩
  · exact .inl h4
  · exact .inr ⟨b, off, ha, fun j hj i v hv => (hb.cell (World.block_lt_of_cell? _ _ (hc j hj i v hv))).trans (hc j hj i v hv)⟩
theorem NodesAt.ok (h : NodesAt w a n c L) {j : Nat} (hj : j < n) : NdOk (nd L j) := nd_ok h.2.2.2.1 (by have := h.1; omega)
theorem NodesAt.key {b off : Nat} (h : NodesAt w (some ⟨b, off, none⟩) n c L) (j : Nat) (hj : j < n) : w.rangeAt b (off + j * 37) (keyL (nd L j).k) := fun i v hv => by
  refine h.at_ j hj i v ?_
  unfold nodeL
  rw [List.getElem?_append_left (List.getElem?_eq_some_iff.1 hv).1]
  exact hv
theorem NodesAt.par {b off : Nat} (h : NodesAt w (some ⟨b, off, none⟩) n c L) (j : Nat) (hj : j < n) : w.cell? ⟨b, off + j * 37 + 34, none⟩ = some (.int .i64 (nd L j).p) := by
  refine h.at_ j hj 34 _ ?_
  have := keyL_length (h.ok hj).1
  simp [nodeL, this]
theorem NodesAt.run {b off : Nat} (h : NodesAt w (some ⟨b, off, none⟩) n c L) (j : Nat) (hj : j < n) : w.cell? ⟨b, off + j * 37 + 35, none⟩ = some (.int .i32 (nd L j).r) := by
  refine h.at_ j hj 35 _ ?_
  have := keyL_length (h.ok hj).1
  simp [nodeL, this]
theorem NodesAt.dead {b off : Nat} (h : NodesAt w (some ⟨b, off, none⟩) n c L) (j : Nat) (hj : j < n) : w.cell? ⟨b, off + j * 37 + 36, none⟩ = some (.bool (nd L j).d) := by
  refine h.at_ j hj 36 _ ?_
  have := keyL_length (h.ok hj).1
  simp [nodeL, this]
theorem NodesAt.pick {b off : Nat} (h : NodesAt w (some ⟨b, off, none⟩) n c L) (j : Nat) (u : Value) (hu : (nflat L)[j]? = some u) : w.cell? ⟨b, off + j, none⟩ = some u := by
  have hjl : j < n * 37 := by
    have := (List.getElem?_eq_some_iff.1 hu).1
    rwa [nflat_length h.2.2.2.1, h.1] at this
  have hd : j = j / 37 * 37 + j % 37 := by omega
  have hu2 := nflat_at h.2.2.2.1 (j / 37) (j % 37) (by have := h.1; omega) (Nat.mod_lt _ (by omega))
  rw [← hd, hu] at hu2
  have := h.at_ (j / 37) (by omega) (j % 37) u hu2.symm
  rwa [Nat.add_assoc, ← hd] at this
end

section
variable (E : TypeId)
/-- A value that owns these elements, in memory from a block on. -/
def OwnT (w : World) (base : Nat) (v : Value) (L : List NodeV) : Prop := w.ownsRow base E 37 v L.length (nflat L) ∧ ∀ x ∈ L, NdOk x
end
section
variable {E : TypeId} {w w' : World} {base : Nat} {v : Value} {L : List NodeV} {a : Option Addr} {n c : Nat}
theorem OwnT.nil : OwnT E w base (.slice none 0 0) [] := ⟨World.ownsRow_nil _ _ _ _, (fun _ h => by cases h)⟩
theorem OwnT.nodes (h : OwnT E w base v L) : ∃ a c, v = .slice a L.length c ∧ NodesAt w a L.length c L := by
  obtain ⟨h0, hw⟩ := h
  have h0' := h0
  obtain ⟨h1, h2⟩ := h0
  rcases h2 with ⟨rfl, hn⟩ | ⟨g, cap, cur, rfl, hb, hg, hn, hm, hs, ht⟩
  · have : L = [] := List.length_eq_zero_iff.1 hn
    subst this
    exact ⟨none, 0, rfl, NodesAt.nil⟩
  · refine ⟨_, _, rfl, rfl, hn, by unfold maxLen at hm; omega, hw, .inr ⟨g, 0, rfl, fun j hj i u hu => ?_⟩⟩
    have hi : i < 37 := by
      have h3 := (List.getElem?_eq_some_iff.1 hu).1
      rwa [nodeL_length (nd_ok hw hj)] at h3
    have := h0'.cells (g := g) rfl (j * 37 + i) u (by rw [nflat_at hw j i hj hi]; exact hu)
    rw [Addr.add_lit] at this
    rw [Nat.zero_add] at this ⊢
    exact this
theorem OwnT.isNodes (h : OwnT E w base (.slice a n c) L) : NodesAt w a n c L := by
  obtain ⟨a', c', hv, hb⟩ := h.nodes
  simp only [Value.slice.injEq] at hv
  obtain ⟨rfl, rfl, rfl⟩ := hv
  exact hb
theorem OwnT.lt (h : OwnT E w base v L) : ∀ k, v.ownBlock = some k → base ≤ k ∧ k < w.heap.size := fun k hk => World.ownsRow.lt h.1 k hk
theorem OwnT.alloc (h : OwnT E w base v L) (o : Obj) : OwnT E (w.alloc o) base v L := ⟨World.ownsRow.alloc h.1 o, h.2⟩
theorem OwnT.kept {row : Option Nat} (h : OwnT E w base v L) (hg : w.grownBy w' row) (hne : v.ownBlock = none ∨ v.ownBlock ≠ row) : OwnT E w' base v L := ⟨World.ownsRow.kept h.1 hg hne, h.2⟩
theorem OwnT.below (h : OwnT E w base v L) (hb : Below w.heap.size w w') : OwnT E w' base v L := by
  obtain ⟨⟨h1, h2⟩, h3⟩ := h
  refine ⟨⟨h1, ?_⟩, h3⟩
  rcases h2 with h2 | ⟨g, cap, cur, hv, hg, hh, r⟩
  · exact .inl h2
  · refine .inr ⟨g, cap, cur, hv, hg, ?_, r⟩
    have hlt : g < w.heap.size := by
      rcases Nat.lt_or_ge g w.heap.size with h | h
      · exact h
      · rw [Array.getElem?_eq_none h] at hh; cases hh
    rw [hb.block g hlt]; exact hh
theorem OwnT.mono {base' : Nat} (h : OwnT E w base v L) (hb : base' ≤ base) : OwnT E w base' v L := by
  obtain ⟨⟨h1, h2⟩, h3⟩ := h
  refine ⟨⟨h1, ?_⟩, h3⟩
  rcases h2 with h2 | ⟨g, cap, cur, hv, hg, r⟩
  · exact .inl h2
  · exact .inr ⟨g, cap, cur, hv, by omega, r⟩
theorem OwnT.row (h : OwnT E w base (.slice a n c) L) (hn : 0 < n) : ∃ g, a = some ⟨g, 0, none⟩ ∧ base ≤ g ∧ g < w.heap.size ∧ (∀ j, w.frozen? ⟨g, j, none⟩ = false) := by
  have h0 := h.1
  obtain ⟨⟨h1, h2⟩, _⟩ := h
  rcases h2 with ⟨hv, hz⟩ | ⟨g, cap, cur, hv, hb, hg, hle, hm, hs, ht⟩
  · simp only [Value.slice.injEq] at hv; omega
  · simp only [Value.slice.injEq] at hv
    obtain ⟨rfl, rfl, rfl⟩ := hv
    have hlt : g < w.heap.size := by
      rcases Nat.lt_or_ge g w.heap.size with h | h
      · exact h
      · rw [Array.getElem?_eq_none h] at hg; cases hg
    exact ⟨g, rfl, hb, hlt, fun j => World.ownsRow.frozenAt h0 j⟩
end

theorem run_app_nodes {T E : TypeId} {z : Value} (ty : TypeId) (hU : Try.prog.underlying T = some (.slice E)) (hI : (Try.prog.info? E).map (fun i => (i.zero, i.size, i.bytes)) = some (some z, 37, 64)) (hz : z.cells.size = 37)
    (w : World) (base : Nat) (v : Value) (l : List NodeV) (hown : OwnT E w base v l) (sa : Option Addr) (m c : Nat) (src : List NodeV) (hsrc : NodesAt w sa m c src) (h48 : l.length + m ≤ 1000000000) (hbase : base ≤ w.heap.size) (r : Nat) (hr : r = l.length + m) :
    ∃ a' c' w', (Builtin.append_ #[T, T] ty #[v, .slice sa m c]).run Try.prog w = .ok (.slice a' r c') w' ∧ OwnT E w' base (.slice a' r c') (l ++ src) ∧ w.grownBy w' v.ownBlock := by
  obtain ⟨i0, hi, hz0, hz1, hz2⟩ := info_parts hI
  obtain ⟨h1, h2, h3, h5, h4⟩ := id hsrc
  have hW : ∀ y ∈ l ++ src, NdOk y := fun y hy => by
    rcases List.mem_append.1 hy with h | h
    · exact hown.2 y h
    · exact h5 y h
  have fin : ∀ v' w', (Builtin.append_ #[T, T] ty #[v, .slice sa m c]).run Try.prog w = .ok v' w' → OwnT E w' base v' (l ++ src) → w.grownBy w' v.ownBlock →
      ∃ a' c' w', (Builtin.append_ #[T, T] ty #[v, .slice sa m c]).run Try.prog w = .ok (.slice a' r c') w' ∧ OwnT E w' base (.slice a' r c') (l ++ src) ∧ w.grownBy w' v.ownBlock := by
    intro v' w' hrun hO hg
    obtain ⟨a', c', rfl, _⟩ := hO.nodes
    have e : (l ++ src).length = r := by rw [List.length_append, h1, hr]
    rw [e] at hO hrun
    exact ⟨a', c', w', hrun, hO, hg⟩
  rcases h4 with ⟨rfl, rfl⟩ | ⟨b, off, rfl, hc⟩
  · have : src = [] := List.length_eq_zero_iff.1 h1
    subst this
    cases sa with
    | none => exact fin v w (run_append_owned_none (P := Try.prog) _ base T ty E i0 37 hU hi _ _ _ hown.1) (by rw [List.append_nil]; exact hown) ⟨rfl, rfl, rfl, Nat.le_refl _, fun _ _ _ => rfl⟩
    | some ad =>
      obtain ⟨v', w', hrun, h6, h7, _⟩ := run_append_own (P := Try.prog) _ base T ty E i0 z 37 64 hU hi hz0 hz1 hz2 hz (by decide) _ _ _ hown.1 ad 0 0 [] (by simp) (by simp) (by simp) (by unfold maxLen; omega) (by omega) hbase
      exact fin v' w' hrun (by rw [List.append_nil]; exact ⟨by simpa using h6, hown.2⟩) h7
  · obtain ⟨v', w', hrun, h6, h7, _⟩ := run_append_own (P := Try.prog) _ base T ty E i0 z 37 64 hU hi hz0 hz1 hz2 hz (by decide) _ _ _ hown.1 ⟨b, off, none⟩ m c (nflat src) (by rw [nflat_length h5, h1]) (fun j u hu => by
      rw [Addr.add_lit]
      exact hsrc.pick j u hu) (nflat_one src) (by unfold maxLen; omega) (by omega) hbase
    refine fin v' w' hrun ⟨?_, hW⟩ h7
    rw [List.length_append, nflat_append, h1]
    exact h6
/-- An append of elements to what is the call's own. -/
theorem wp_app_nodes {T E : TypeId} {z : Value} (hU : Try.prog.underlying T = some (.slice E)) (hI : (Try.prog.info? E).map (fun i => (i.zero, i.size, i.bytes)) = some (some z, 37, 64)) (hz : z.cells.size = 37)
    {w : World} {o : Oper} {a : Act} {K : Act → World → Prop} {Q : Exit → Act → World → Prop} (s x : Operand)
    (ho : o.op = .call { callee := .builtin .append, args := #[s, x], argTypes := #[T, T] })
    (base : Nat) (v : Value) (l : List NodeV) (hs : a.eval s = v) (hown : OwnT E w base v l)
    (sa : Option Addr) (m c : Nat) (src : List NodeV) (hx : a.eval x = .slice sa m c) (hsrc : NodesAt w sa m c src)
    (h48 : l.length + m ≤ 1000000000) (hbase : base ≤ w.heap.size) (r : Nat) (hr : r = l.length + m)
    (h : ∀ a' c' w', OwnT E w' base (.slice a' r c') (l ++ src) → w.grownBy w' v.ownBlock → K (a.put o.dst (.slice a' r c')) w') : o.wp Try.prog a w K Q := by
  obtain ⟨a', c', w', hrun, h1, h2⟩ := run_app_nodes o.type hU hI hz w base v l hown sa m c src hsrc h48 hbase r hr
  exact Lib.wp_append_run _ s x _ _ ho _ _ hs hx _ _ hrun (h a' c' w' h1 h2)
theorem app_nodes {T E : TypeId} {z : Value} (hU : Try.prog.underlying T = some (.slice E)) (hI : (Try.prog.info? E).map (fun i => (i.zero, i.size, i.bytes)) = some (some z, 37, 64)) (hz : z.cells.size = 37)
    {w : World} {ops : Array Oper} {rest : List Oper} {o : Oper} {a : Act} {Q : Exit → Act → World → Prop} (hgd : o.guard = none) (s x : Operand)
    (ho : o.op = .call { callee := .builtin .append, args := #[s, x], argTypes := #[T, T] })
    (base : Nat) (v : Value) (l : List NodeV) (hs : a.eval s = v) (hown : OwnT E w base v l)
    (sa : Option Addr) (m c : Nat) (src : List NodeV) (hx : a.eval x = .slice sa m c) (hsrc : NodesAt w sa m c src)
    (h48 : l.length + m ≤ 1000000000) (hbase : base ≤ w.heap.size) (r : Nat) (hr : r = l.length + m)
    (h : ∀ a' c' w', OwnT E w' base (.slice a' r c') (l ++ src) → w.grownBy w' v.ownBlock → wpList Try.prog ops Q rest (a.put o.dst (.slice a' r c')) w') : wpList Try.prog ops Q (o :: rest) a w :=
  wpList_plain hgd fun _ hK => wp_app_nodes hU hI hz s x ho base v l hs hown sa m c src hx hsrc h48 hbase r hr (fun a' c' w' h1 h2 => hK _ _ (h a' c' w' h1 h2))
/-- An operation that stands ready in a held region. -/
theorem ready_step {ops : Array Oper} {o : Oper} {a : Act} {w : World} {K : Act → World → Prop} {Q : Exit → Act → World → Prop} (h : o.wp Try.prog a w K Q) (hw : Region.wanted o (yielded ops a.tmps) = true := by rfl) : if Region.wanted o (yielded ops a.tmps) = true then o.wp Try.prog a w K Q else K (a.put o.dst undef) w := by
  rw [if_pos hw]; exact h
/-- One element in a block of its own, ahead of its append. -/
theorem one_node (w : World) (x : NodeV) (hx : NdOk x) (E : TypeId) (cs : Array Value) (hcs : cs = nodeC x) : NodesAt (w.alloc (.cells cs E)) (some ⟨w.heap.size, 0, none⟩) 1 1 [x] := by
  subst hcs
  refine ⟨rfl, Nat.le_refl _, by omega, fun y hy => by simp at hy; rw [hy]; exact hx, .inr ⟨_, _, rfl, fun j hj i v hv => ?_⟩⟩
  obtain rfl : j = 0 := by omega
  have e : nd [x] 0 = x := rfl
  rw [e] at hv
  rw [Nat.zero_mul, Nat.zero_add, World.cell?_alloc_new]
  simpa [nodeC] using hv
theorem infoT : (Try.prog.info? 44).map (fun i => (i.zero, i.size, i.bytes)) = some (some (.agg (nodeC ⟨⟨0, idZero, 0⟩, 0, 0, false⟩)), 37, 64) := by kernel_rfl
theorem infoR : (Try.prog.info? 43).map (fun i => (i.zero, i.size, i.bytes)) = some (some (.agg (nodeC ⟨⟨0, idZero, 0⟩, 0, 0, false⟩)), 37, 64) := by kernel_rfl
#print axioms app_nodes
#print axioms one_node
end Go.Proofs.Ytmenhbdapikpeaa
