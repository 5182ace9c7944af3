/-
  A directory in memory: a map from names to pointers, told by what each name leads to; a look-up, a store, a delete, its names.
-/
import Derived.Test.YtemphljkfpkgmaaDkMathAll
import Derived.Test.YtemphljkfpkgmaaTell
import Derived.Test.YtemphljkfpkgmaaOneG
import Derived.Test.YtemphljkfpkgmaaRow
import Derived.Maps.OwnSet
import Derived.Maps.OwnOps
import Derived.Maps.Ext
import Derived.Sort.KeysCollected
namespace Go.Proofs.Ytemphljkfpkgmaa
open Go.RowKit Go.Maps

/-- A pointer to a block's head, as a datum: the block's number. -/
def ptrElem (v : Value) : Option (DataW Unit × List MemPlace) :=
  match v with
  | .pointer (some a) => if a.off = 0 ∧ a.spot = none then some (.lit (.int .i64 (a.block : Int)), []) else none
  | .pointer none => some (.nil, [])
  | _ => none
theorem ptrElem_pt (b : Nat) : ptrElem (.pointer (some ⟨b, 0, none⟩)) = some (.lit (.int .i64 (b : Int)), []) := rfl
theorem ptrElem_inv {v : Value} {b : Nat} {ps : List MemPlace} (h : ptrElem v = some (.lit (.int .i64 (b : Int)), ps)) : v = .pointer (some ⟨b, 0, none⟩) := by
  unfold ptrElem at h
  split at h
  · rename_i a
    split at h
    · rename_i hc
      obtain ⟨b', off, sp⟩ := a
      obtain ⟨h1, h2⟩ := hc
      simp only at h1 h2
      subst h1 h2
      simp only [Option.some.injEq, Prod.mk.injEq, DataW.lit.injEq, Lit.int.injEq, true_and] at h
      have h5 := h.1
      obtain rfl : b' = b := by omega
      rfl
    · cases h
  · simp at h
  · cases h
theorem ptrElem_nil {v : Value} {ps : List MemPlace} (h : ptrElem v = some (.nil, ps)) : v = .pointer none := by
  unfold ptrElem at h
  split at h
  · split at h
    · simp at h
    · cases h
  · rfl
  · cases h

def entryD (bl : List Nat) : Option Nat → DataW Unit
  | none => .nil
  | some k => .lit (.int .i64 ((bl.getD k 0 : Nat) : Int))
def ptrOf (bl : List Nat) : Option Nat → Value
  | none => .pointer none
  | some k => .pointer (some ⟨bl.getD k 0, 0, none⟩)
theorem ptrOf_elem {bl : List Nat} {o : Option Nat} {v : Value} {ps : List MemPlace} (h : ptrElem v = some (entryD bl o, ps)) : v = ptrOf bl o := by
  cases o with
  | none => exact ptrElem_nil h
  | some k => exact ptrElem_inv h

/-- Block b is a map of at most n entries that leads each name to the file that g says. -/
def DirAt (w : World) (b : Nat) (bl : List Nat) (n : Nat) (g : Nm → Option Nat) : Prop :=
  ∃ D, w.ownsMap Try.prog 9 ptrElem b n D ∧ (∀ s, D.atKey (.string s) .nil = entryD bl (g s)) ∧ ∀ s, Maps.has D (.string s) = (g s).isSome

theorem lawS : Keyed Try.prog 9 := string_keyed Try.underlying9
theorem zeroP (w : World) : (zeroValue 68).run Try.prog w = .ok (.pointer none) w := by kernel_rfl
theorem keyS {s : ByteArray} (h : s.size ≤ maxLen) : keyOf Try.prog 9 (.string s) = some (.string s.data.toList) := Go.WideMaps.keyOf_string_mk Try.underlying9 h

section
variable {w w' : World} {b n : Nat} {bl : List Nat} {g : Nm → Option Nat}
theorem DirAt.lt (h : DirAt w b bl n g) : b < w.heap.size := by obtain ⟨D, h1, _⟩ := h; exact h1.lt
theorem DirAt.mono (h : DirAt w b bl n g) {m : Nat} (hm : n ≤ m) : DirAt w b bl m g := by obtain ⟨D, h1, h2⟩ := h; exact ⟨D, h1.mono hm, h2⟩
theorem DirAt.same (h : DirAt w b bl n g) (hb : w'.heap[b]? = w.heap[b]?) : DirAt w' b bl n g := by
  obtain ⟨D, ⟨es, clock, h1, h2⟩, h3⟩ := h
  exact ⟨D, ⟨es, clock, hb.trans h1, h2⟩, h3⟩
theorem DirAt.ids (h : DirAt w b bl n g) {bl' : List Nat} (hb : ∀ s k, g s = some k → bl'.getD k 0 = bl.getD k 0) : DirAt w b bl' n g := by
  obtain ⟨D, h1, h2, h3⟩ := h
  refine ⟨D, h1, fun s => ?_, h3⟩
  rw [h2 s]
  cases hg : g s with
  | none => rfl
  | some k => show DataW.lit (.int .i64 ((bl.getD k 0 : Nat) : Int)) = .lit (.int .i64 ((bl'.getD k 0 : Nat) : Int)); rw [hb s k hg]
/-- Other numbers for the same files. -/
theorem DirAt.renamed (h : DirAt w b bl n g) {bl' : List Nat} {g' : Nm → Option Nat} (hb : ∀ s, entryD bl' (g' s) = entryD bl (g s)) : DirAt w b bl' n g' := by
  obtain ⟨D, h1, h2, h3⟩ := h
  refine ⟨D, h1, fun s => by rw [h2 s, hb s], fun s => ?_⟩
  rw [h3 s]
  have := hb s
  cases h4 : g s <;> cases h5 : g' s <;> rw [h4, h5] at this <;> first | rfl | (simp [entryD] at this)
theorem DirAt.of_eq (h : DirAt w b bl n g) {g' : Nm → Option Nat} (hg : ∀ s, g' s = g s) : DirAt w b bl n g' := h.renamed fun s => by rw [hg]
theorem dir_made (w : World) (bl : List Nat) : DirAt (w.alloc (.map #[] 0)) w.heap.size bl 0 (fun _ => none) :=
  ⟨.map [], World.ownsMap_made _ _ _ _, fun _ => rfl, fun _ => rfl⟩
/-- As tight as its list. -/
theorem DirAt.perm {l : Dir} (hs : SortedD l) {D : DataW Unit} (h1 : w.ownsMap Try.prog 9 ptrElem b n D) (h3 : ∀ s, Maps.has D (.string s) = (look l s).isSome) : (names l).Perm (strKeys D) := by
  obtain ⟨es, rfl, hp⟩ := h1.tidy lawS
  obtain ⟨es', he, hk⟩ := h1.keysOf
  cases he
  refine perm_strKeys hp (fun p hp' => ?_) (names_nodup hs) (fun x => ?_)
  · obtain ⟨v, hv⟩ := hk p hp'
    obtain ⟨x, _, hx, _⟩ := Maps.keyOf_str Try.underlying9 hv
    exact ⟨x, hx⟩
  · rw [h3 x, names_mem]
    cases look l x <;> simp
theorem DirAt.tight {l : Dir} (h : DirAt w b bl n (look l)) (hs : SortedD l) : DirAt w b bl l.length (look l) := by
  obtain ⟨D, h1, h2, h3⟩ := h
  have hp := (DirAt.perm hs h1 h3).length_eq
  refine ⟨D, ?_, h2, h3⟩
  obtain ⟨es, clock, hb, F, _, hD⟩ := h1
  refine ⟨es, clock, hb, F, ?_, hD⟩
  subst hD
  have e : (strKeys (DataW.map ((es.toList.map (WideElems.rg Try.prog 9 ptrElem)).foldr DataW.insert []))).length = es.size := by
    simp only [strKeys, List.length_map, length_sorted]
    simp
  rw [e] at hp
  simp only [names, List.length_map] at hp
  omega

/-- m[name], at the operation. -/
theorem wl_look {ops : Array Oper} {rest : List Oper} {o : Oper} {a : Act} {Q : Exit → Act → World → Prop} (hgd : o.guard = none) (m x : Operand) (hop : o.op = Op.lookup 47 m x false)
    (h : DirAt w b bl n g) (hm : a.eval m = .map (some b)) (s : ByteArray) (hx : a.eval x = .string s) (hs : s.size ≤ 1000000)
    (hK : wpList Try.prog ops Q rest (a.put o.dst (ptrOf bl (g s.data.toList))) w) : wpList Try.prog ops Q (o :: rest) a w := by
  obtain ⟨D, h1, h2, _⟩ := h
  obtain ⟨v, ps, hrun, hv⟩ := h1.lookup (t := 47) (e := 68) lawS Try.underlying47 (zeroP w) (z := .pointer none) (zd := .nil) (zp := []) rfl (keyS (s := s) (by unfold maxLen; omega))
  rw [h2] at hv
  obtain rfl := ptrOf_elem hv
  refine wpList_plain hgd fun K' hK' => ?_
  unfold Oper.wp
  simp [execOp, hop, hm, hx, hrun, Result.andThen]
  exact hK' _ _ hK
/-- m[name] = f, at the operation. -/
theorem wl_put {ops : Array Oper} {rest : List Oper} {o : Oper} {a : Act} {Q : Exit → Act → World → Prop} (hgd : o.guard = none) (m x v : Operand) (hop : o.op = Op.mapUpdate 47 m x v)
    (h : DirAt w b bl n g) (hn : n ≤ 1000000) (hm : a.eval m = .map (some b)) (s : ByteArray) (hx : a.eval x = .string s) (hs : s.size ≤ 1000000) (k : Nat) (hv : a.eval v = .pointer (some ⟨bl.getD k 0, 0, none⟩))
    (hK : ∀ w', DirAt w' b bl (n + 1) (fun t => if t = s.data.toList then some k else g t) → w.grownBy w' (some b) → wpList Try.prog ops Q rest (a.put o.dst undef) w') : wpList Try.prog ops Q (o :: rest) a w := by
  obtain ⟨D, h1, h2, h3⟩ := h
  have hkey := keyS (s := s) (by unfold maxLen; omega)
  refine wpList_mapUpdate_own w hgd m x v 47 hop 9 68 lawS Try.underlying47 ptrElem b n D hm h1 (by unfold maxLen; omega) _ _ _ hx hv hkey _ [] (ptrElem_pt _) ?_
  intro w' h4 h5
  refine hK w' ⟨_, h4, fun t => ?_, fun t => ?_⟩ h5
  · show _ = entryD bl (if t = s.data.toList then some k else g t)
    by_cases ht : t = s.data.toList
    · subst ht
      rw [atKey_put_same h1.isMap (by trivial), if_pos rfl]
      rfl
    · rw [atKey_put_other (by intro e; exact ht (by simpa using e)), if_neg ht, h2]
  · show _ = (if t = s.data.toList then some k else g t).isSome
    by_cases ht : t = s.data.toList
    · subst ht
      rw [has_put_same h1.isMap (by trivial), if_pos rfl]
      rfl
    · rw [has_put_other (by intro e; exact ht (by simpa using e)), if_neg ht, h3]
/-- delete(m, name), at the operation. -/
theorem wl_del {ops : Array Oper} {rest : List Oper} {o : Oper} {a : Act} {Q : Exit → Act → World → Prop} (hgd : o.guard = none) (m x : Operand) (hop : o.op = Op.call { callee := Callee.builtin Builtin.delete, args := #[m, x], argTypes := #[47, 9] })
    (h : DirAt w b bl n g) (hm : a.eval m = .map (some b)) (s : ByteArray) (hx : a.eval x = .string s) (hs : s.size ≤ 1000000)
    (hK : ∀ w', DirAt w' b bl n (fun t => if t = s.data.toList then none else g t) → w.grownBy w' (some b) → wpList Try.prog ops Q rest (a.put o.dst (.tuple #[])) w') : wpList Try.prog ops Q (o :: rest) a w := by
  obtain ⟨D, h1, h2, h3⟩ := h
  have hkey := keyS (s := s) (by unfold maxLen; omega)
  refine wpList_delete_own w hgd m x 47 9 hop 68 lawS Try.underlying47 ptrElem b n D hm h1 _ _ hx hkey ?_
  intro w' h4 h5
  refine hK w' ⟨_, h4, fun t => ?_, fun t => ?_⟩ h5.grown
  · show _ = entryD bl (if t = s.data.toList then none else g t)
    by_cases ht : t = s.data.toList
    · subst ht
      rw [atKey_del_same, if_pos rfl]
      rfl
    · rw [atKey_del_other (by intro e; exact ht (by simpa using e)), if_neg ht, h2]
  · show _ = (if t = s.data.toList then none else g t).isSome
    by_cases ht : t = s.data.toList
    · subst ht
      rw [has_del_same, if_pos rfl]
      rfl
    · rw [has_del_other (by intro e; exact ht (by simpa using e)), if_neg ht, h3]
end
#print axioms wl_put
#print axioms wl_del
end Go.Proofs.Ytemphljkfpkgmaa
