/-
  An append to what is the call's own, told with where the result lies, whatever the elements: where it lay, or in a new block.
-/
import Derived.Test.YtkafeadgjpglaaaOne
import Derived.Deep.MidRow
import Derived.Lib.AppendZeros
namespace Go.Proofs.Ytkafeadgjpglaaa
open Go.RowKit

/-- The one lies in no block of the other. -/
def Apart (u v : Value) : Prop := ∀ k, u.ownBlock = some k → v.ownBlock ≠ some k

/-- A value lies where the elder did, or in a block that is new. -/
def Told (w : World) (v v' : Value) : Prop := v'.ownBlock = v.ownBlock ∨ ∃ k, v'.ownBlock = some k ∧ w.heap.size ≤ k

theorem Apart.symm {u v : Value} (h : Apart u v) : Apart v u := fun k hk hu => h k hu hk

theorem Apart.told {w : World} {u v v' : Value} (h : Apart u v) (ht : Told w v v') (hlt : ∀ k, u.ownBlock = some k → k < w.heap.size) : Apart u v' := by
  intro k hk hv
  rcases ht with e | ⟨m, hm, hle⟩
  · rw [e] at hv; exact h k hk hv
  · rw [hm] at hv
    have := hlt k hk
    cases hv
    omega

theorem Apart.kept {u v : Value} (h : Apart u v) : u.ownBlock = none ∨ u.ownBlock ≠ v.ownBlock := by
  cases hu : u.ownBlock with
  | none => exact .inl rfl
  | some k => exact .inr (fun e => h k hu e.symm)

section
variable {P : Program} (w : World)
theorem run_append_tell (base : Nat) (t ty e : TypeId) (i : TypeInfo) (z : Value) (size bytes : Nat) (ht : P.underlying t = some (.slice e)) (hi : P.info? e = some i) (hz : i.zero = some z)
    (hsize : i.size = size) (hby : i.bytes = bytes) (hzs : z.cells.size = size) (hsz : 0 < size)
    (v : Value) (n : Nat) (xs : List Value) (hown : w.ownsRow base e size v n xs)
    (a : Addr) (m c : Nat) (news : List Value) (hl : news.length = m * size) (hnews : ∀ j u, news[j]? = some u → w.cell? (a.add j) = some u) (h1 : ∀ u ∈ news, u.oneCell' = true)
    (h63 : n + m ≤ maxLen) (hbytes : (n + m) * bytes ≤ 140737488355328) (hbase : base ≤ w.heap.size) :
    ∃ v' w', (Builtin.append_ #[t, t] ty #[v, .slice (some a) m c]).run P w = .ok v' w' ∧ w'.ownsRow base e size v' (n + m) (xs ++ news) ∧ w.grownBy w' v.ownBlock ∧ Told w v v' := by
  obtain ⟨v', w', hr, ho, hg, hz2⟩ := run_append_own w base t ty e i z size bytes ht hi hz hsize hby hzs hsz v n xs hown a m c news hl hnews h1 h63 hbytes hbase
  refine ⟨v', w', hr, ho, hg, ?_⟩
  have hown0 := hown
  rcases hown.2 with ⟨rfl, rfl⟩ | ⟨g, cap, cur, rfl, hbg, hgg, hnc, hcm, hcs, htake⟩
  · obtain ⟨v2, w2, hr2, ho2, _⟩ := run_append_own w w.heap.size t ty e i z size bytes ht hi hz hsize hby hzs hsz _ 0 xs ⟨hown.1, .inl ⟨rfl, rfl⟩⟩ a m c news hl hnews h1 h63 hbytes (Nat.le_refl _)
    rw [hr] at hr2
    cases hr2
    cases hv : v'.ownBlock with
    | none => exact .inl (hv.trans rfl)
    | some k => exact .inr ⟨k, hv, (World.ownsRow.lt ho2 k hv).1⟩
  · subst hsize
    subst hby
    by_cases hroom : n + m ≤ cap
    · have hfit : n * i.size + news.length ≤ cur.size := by rw [hl, hcs, ← Nat.add_mul]; exact Nat.mul_le_mul_right _ hroom
      have hr2 := run_append_room (P := P) w t ty e i ht hi g n cap cur hgg a m c news hl hnews h1 hroom hfit
      rw [hr] at hr2
      cases hr2
      exact .inl rfl
    · have holds : ∀ j u, xs[j]? = some u → w.cell? ((⟨g, 0, none⟩ : Addr).add j) = some u := hown0.cells (g := g) rfl
      have hr2 := run_append_grow (P := P) w t ty e i z ht hi hz ⟨g, 0, none⟩ n cap xs hown0.1 holds a m c news hl hnews (by omega) (by simp only [maxLen] at h63; omega) (growslice_fits (by omega) hbytes)
      rw [hr] at hr2
      cases hr2
      exact .inr ⟨_, rfl, Nat.le_refl _⟩
end


/-- An append of one element of one cell to what is the call's own, told. -/
theorem app1_told (mk : Nat → Value) (h1c : ∀ x, (mk x).oneCell' = true) {T E : TypeId} {z : Value} {by_ : Nat} (hU : Try.prog.underlying T = some (.slice E)) (hI : (Try.prog.info? E).map (fun i => (i.zero, i.size, i.bytes)) = some (some z, 1, by_)) (hz : z.cells.size = 1)
    {w : World} {ops : Array Oper} {rest : List Oper} {o : Oper} {a : Act} {Q : Exit → Act → World → Prop} (hgd : o.guard = none) (s x : Operand)
    (ho : o.op = .call { callee := .builtin .append, args := #[s, x], argTypes := #[T, T] })
    (base : Nat) (v : Value) (l : List Nat) (hs : a.eval s = v) (hown : Own1 mk E w base v l)
    (g y : Nat) (hx : a.eval x = .slice (some ⟨g, 0, none⟩) 1 1) (hsrc : w.cell? ⟨g, 0, none⟩ = some (mk y))
    (h48 : (l.length + 1) * (by_ + 1) ≤ 140737488355328) (hbase : base ≤ w.heap.size) (r : Nat) (hr : r = l.length + 1)
    (h : ∀ a' c' w', Own1 mk E w' base (.slice a' r c') (l ++ [y]) → w.grownBy w' v.ownBlock → Told w v (.slice a' r c') → wpList Try.prog ops Q rest (a.put o.dst (.slice a' r c')) w') : wpList Try.prog ops Q (o :: rest) a w := by
  obtain ⟨i0, hi, hz0, hz1, hz2⟩ := info_parts hI
  have e48 : (l.length + 1) * by_ ≤ 140737488355328 := Nat.le_trans (Nat.mul_le_mul_left _ (by omega)) h48
  have e63 : l.length + 1 ≤ 140737488355328 := Nat.le_trans (Nat.le_mul_of_pos_right _ (by omega)) h48
  obtain ⟨v', w', hrn, h5, h6, h7⟩ := run_append_tell (P := Try.prog) w base T o.type E i0 z 1 by_ hU hi hz0 hz1 hz2 hz (by decide) v l.length (l.map mk) hown
    ⟨g, 0, none⟩ 1 1 [mk y] (by simp) (fun j u hu => by
      cases j with
      | zero => simp only [List.getElem?_cons_zero, Option.some.injEq] at hu; subst hu; rw [Addr.add_lit]; exact hsrc
      | succ j => simp at hu) (fun u hu => by simp only [List.mem_singleton] at hu; subst hu; exact h1c y) (by unfold maxLen; omega) e48 hbase
  have ho' : Own1 mk E w' base v' (l ++ [y]) := by
    unfold Own1
    rw [List.length_append, List.map_append]
    exact h5
  obtain ⟨a', c', rfl, _⟩ := ho'.at1_
  have e : (l ++ [y]).length = r := by simp [hr]
  rw [e] at ho' hrn h7
  exact Lib.wpList_append_run w hgd s x T T ho _ _ hs hx _ _ hrn (h a' c' w' ho' h6 h7)

/-! ### Pairs: arrays of two ints -/
def pc (p : Nat × Nat) : List Value := [N p.1, N p.2]
def flat2 (L : List (Nat × Nat)) : List Value := L.flatMap pc
theorem flat2_length (L : List (Nat × Nat)) : (flat2 L).length = L.length * 2 := by
  induction L with
  | nil => rfl
  | cons p L ih =>
    have e : flat2 (p :: L) = N p.1 :: N p.2 :: flat2 L := rfl
    rw [e, List.length_cons, List.length_cons, List.length_cons, ih]
    omega
theorem flat2_append (L M : List (Nat × Nat)) : flat2 (L ++ M) = flat2 L ++ flat2 M := by simp [flat2]
theorem flat2_at {L : List (Nat × Nat)} {i : Nat} (hi : i < L.length) : (flat2 L)[i * 2]? = some (N (L.getD i (0, 0)).1) ∧ (flat2 L)[i * 2 + 1]? = some (N (L.getD i (0, 0)).2) := by
  induction L generalizing i with
  | nil => simp at hi
  | cons p L ih =>
    have e : flat2 (p :: L) = N p.1 :: N p.2 :: flat2 L := rfl
    cases i with
    | zero => rw [e]; exact ⟨rfl, rfl⟩
    | succ i =>
      have := ih (i := i) (by simpa using hi)
      rw [e, show (i + 1) * 2 = i * 2 + 1 + 1 from by omega]
      simpa using this
def At2 (w : World) (a : Option Addr) (n c : Nat) (L : List (Nat × Nat)) : Prop :=
  L.length = n ∧ n ≤ c ∧ c ≤ 9223372036854775807 ∧ ((n = 0 ∧ c = 0) ∨ ∃ b off, a = some ⟨b, off, none⟩ ∧ w.rangeAt b off (flat2 L))
def Own2 (w : World) (base : Nat) (v : Value) (L : List (Nat × Nat)) : Prop := w.ownsRow base 48 2 v L.length (flat2 L)
section
variable {w w' : World} {a : Option Addr} {n c base : Nat} {L : List (Nat × Nat)} {v : Value}
theorem rangeAt_below {b off : Nat} {cs : List Value} (h : w.rangeAt b off cs) (hb : Below w.heap.size w w') : w'.rangeAt b off cs := fun j v hv =>
  (hb.cell (World.block_lt_of_cell? _ _ (h j v hv))).trans (h j v hv)
theorem At2.nil : At2 w none 0 0 [] := ⟨rfl, Nat.le_refl _, by omega, .inl ⟨rfl, rfl⟩⟩
theorem At2.below (h : At2 w a n c L) (hb : Below w.heap.size w w') : At2 w' a n c L := by
  obtain ⟨h1, h2, h3, h4⟩ := h
  refine ⟨h1, h2, h3, ?_⟩
  rcases h4 with h4 | ⟨b, off, ha, hc⟩
  · exact .inl h4
  · exact .inr ⟨b, off, ha, rangeAt_below hc hb⟩
theorem At2.some_ (h : At2 w a n c L) (hn : 0 < n) : ∃ b off, a = some ⟨b, off, none⟩ := by
  rcases h.2.2.2 with ⟨h0, _⟩ | ⟨b, off, ha, _⟩
  · omega
  · exact ⟨b, off, ha⟩
theorem At2.range {b off : Nat} (h : At2 w (some ⟨b, off, none⟩) n c L) (j : Nat) (hj : j < n) : w.rangeAt b (off + j * 2) (pc (L.getD j (0, 0))) := by
  rcases h.2.2.2 with ⟨h0, _⟩ | ⟨b', off', ha, hc⟩
  · omega
  · simp only [Option.some.injEq, Addr.mk.injEq, and_true] at ha
    obtain ⟨rfl, rfl⟩ := ha
    obtain ⟨h1, h2⟩ := flat2_at (L := L) (i := j) (by rw [h.1]; exact hj)
    intro i u hu
    match i with
    | 0 =>
      simp only [pc, List.getElem?_cons_zero, Option.some.injEq] at hu
      subst hu
      have := hc _ _ h1
      rwa [Nat.add_zero]
    | 1 =>
      simp only [pc, List.getElem?_cons_succ, List.getElem?_cons_zero, Option.some.injEq] at hu
      subst hu
      have := hc _ _ h2
      rwa [Nat.add_assoc]
    | i + 2 => simp [pc] at hu
theorem At2.fst {b off : Nat} (h : At2 w (some ⟨b, off, none⟩) n c L) (j : Nat) (hj : j < n) : w.cell? ⟨b, off + j * 2, none⟩ = some (N (L.getD j (0, 0)).1) := by
  have := h.range j hj 0 _ rfl
  rwa [Nat.add_zero] at this
theorem At2.snd {b off : Nat} (h : At2 w (some ⟨b, off, none⟩) n c L) (j : Nat) (hj : j < n) : w.cell? ⟨b, off + j * 2 + 1, none⟩ = some (N (L.getD j (0, 0)).2) := h.range j hj 1 _ rfl
theorem Own2.nil : Own2 w base (.slice none 0 0) [] := World.ownsRow_nil _ _ _ _
theorem Own2.at2_ (h : Own2 w base v L) : ∃ a c, v = .slice a L.length c ∧ At2 w a L.length c L := by
  have h0 := h
  obtain ⟨h1, h2⟩ := h
  rcases h2 with ⟨rfl, hn⟩ | ⟨g, cap, cur, rfl, hb, hg, hn, hm, hs, ht⟩
  · have : L = [] := List.length_eq_zero_iff.1 hn
    subst this
    exact ⟨none, 0, rfl, At2.nil⟩
  · refine ⟨_, _, rfl, rfl, hn, by unfold maxLen at hm; omega, .inr ⟨g, 0, rfl, fun j v hv => ?_⟩⟩
    have := h0.cells (g := g) rfl j v hv
    rwa [Addr.add_lit] at this
theorem Own2.at2 (h : Own2 w base (.slice a n c) L) : At2 w a n c L := by
  obtain ⟨a', c', hv, hb⟩ := h.at2_
  simp only [Value.slice.injEq] at hv
  obtain ⟨rfl, rfl, rfl⟩ := hv
  exact hb
theorem Own2.alloc (h : Own2 w base v L) (o : Obj) : Own2 (w.alloc o) base v L := World.ownsRow.alloc h o
theorem Own2.lt (h : Own2 w base v L) : ∀ k, v.ownBlock = some k → base ≤ k ∧ k < w.heap.size := World.ownsRow.lt h
theorem Own2.below (h : Own2 w base v L) (hb : Below w.heap.size w w') : Own2 w' base v L := by
  obtain ⟨h1, h2⟩ := h
  refine ⟨h1, ?_⟩
  rcases h2 with h2 | ⟨g, cap, cur, hv, hg, hh, r⟩
  · exact .inl h2
  · refine .inr ⟨g, cap, cur, hv, hg, ?_, r⟩
    have hlt : g < w.heap.size := by
      rcases Nat.lt_or_ge g w.heap.size with h | h
      · exact h
      · rw [Array.getElem?_eq_none h] at hh; cases hh
    rw [hb.block g hlt]; exact hh
theorem Own2.kept {row : Option Nat} (h : Own2 w base v L) (hg : w.grownBy w' row) (hne : v.ownBlock = none ∨ v.ownBlock ≠ row) : Own2 w' base v L := World.ownsRow.kept h hg hne
end
theorem infoP : (Try.prog.info? 48).map (fun i => (i.zero, i.size, i.bytes)) = some (some (.agg #[N 0, N 0]), 2, 16) := by kernel_rfl

theorem run_pair1 (w : World) (p : Nat × Nat) : (Instr.buildSlice 41 1 #[(0, .agg #[N p.1, N p.2])]).run Try.prog w = .ok (.slice (some ⟨w.heap.size, 0, none⟩) 1 1) (w.alloc (.cells #[N p.1, N p.2] 48)) := by kernel_rfl
theorem wl_pair1 {w : World} {ops : Array Oper} {rest : List Oper} {o : Oper} {a : Act} {Q : Exit → Act → World → Prop} (hgd : o.guard = none) (x : Operand) (ho : o.op = .buildSlice 41 1 #[(0, x)])
    (p : Nat × Nat) (hx : a.eval x = .agg #[N p.1, N p.2])
    (h : wpList Try.prog ops Q rest (a.put o.dst (.slice (some ⟨w.heap.size, 0, none⟩) 1 1)) (w.alloc (.cells #[N p.1, N p.2] 48))) : wpList Try.prog ops Q (o :: rest) a w := by
  refine wpList_plain hgd fun K hK => ?_
  unfold Oper.wp
  have hr : (execOp a.eval o).run Try.prog w = .ok (.value (.slice (some ⟨w.heap.size, 0, none⟩) 1 1)) (w.alloc (.cells #[N p.1, N p.2] 48)) := by
    unfold execOp
    simp only [ho, List.map_toArray, List.map_cons, List.map_nil, hx, Sem.run_bind, run_pair1 w p, Result.andThen_ok, Sem.run_pure]
  rw [hr]
  exact hK _ _ h

/-- An append of one pair to what is the call's own, told. -/
theorem app2_told {w : World} {ops : Array Oper} {rest : List Oper} {o : Oper} {a : Act} {Q : Exit → Act → World → Prop} (hgd : o.guard = none) (s x : Operand)
    (ho : o.op = .call { callee := .builtin .append, args := #[s, x], argTypes := #[41, 41] })
    (base : Nat) (v : Value) (l : List (Nat × Nat)) (hs : a.eval s = v) (hown : Own2 w base v l)
    (g : Nat) (y : Nat × Nat) (hx : a.eval x = .slice (some ⟨g, 0, none⟩) 1 1) (hsrc : w.rangeAt g 0 (pc y))
    (h48 : l.length + 1 ≤ 1000000000000) (hbase : base ≤ w.heap.size) (r : Nat) (hr : r = l.length + 1)
    (h : ∀ a' c' w', Own2 w' base (.slice a' r c') (l ++ [y]) → w.grownBy w' v.ownBlock → Told w v (.slice a' r c') → wpList Try.prog ops Q rest (a.put o.dst (.slice a' r c')) w') : wpList Try.prog ops Q (o :: rest) a w := by
  obtain ⟨i0, hi, hz0, hz1, hz2⟩ := info_parts infoP
  obtain ⟨v', w', hrn, h5, h6, h7⟩ := run_append_tell (P := Try.prog) w base 41 o.type 48 i0 (.agg #[N 0, N 0]) 2 16 Try.underlying41 hi hz0 hz1 hz2 rfl (by decide) v l.length (flat2 l) hown
    ⟨g, 0, none⟩ 1 1 (pc y) rfl (fun j u hu => by rw [Addr.add_lit]; exact hsrc j u hu) (fun u hu => by simp only [pc, List.mem_cons, List.not_mem_nil, or_false] at hu; rcases hu with rfl | rfl <;> rfl) (by unfold maxLen; omega) (by omega) hbase
  have ho' : Own2 w' base v' (l ++ [y]) := by
    unfold Own2
    rw [List.length_append, flat2_append]
    have e1 : flat2 [y] = pc y := by simp [flat2]
    rw [e1]
    exact h5
  obtain ⟨a', c', rfl, _⟩ := ho'.at2_
  have e : (l ++ [y]).length = r := by simp [hr]
  rw [e] at ho' hrn h7
  exact Lib.wpList_append_run w hgd s x 41 41 ho _ _ hs hx _ _ hrn (h a' c' w' ho' h6 h7)

/-- A pair, loaded whole. -/
theorem wl_loadP {w : World} {ops : Array Oper} {rest : List Oper} {o : Oper} {a : Act} {Q : Exit → Act → World → Prop} (hw : Region.wanted o (yielded ops a.tmps) = true) (x : Operand) (ho : o.op = .load 48 x)
    (b off : Nat) (p : Nat × Nat) (hx : a.eval x = .pointer (some ⟨b, off, none⟩)) (hc : w.rangeAt b off (pc p))
    (h : wpList Try.prog ops Q rest (a.put o.dst (.agg #[N p.1, N p.2])) w) : wpList Try.prog ops Q (o :: rest) a w := by
  have hr := run_loadVar_mid (P := Try.prog) w b off 48 (pc p) _ hc Try.underlying48 rfl (by kernel_rfl)
  unfold wpList
  rw [if_pos hw]
  refine .inl ?_
  unfold Oper.wp execOp
  simp only [ho, hx, Instr.loadAt, Instr.sureAddr, Sem.run_bind, Sem.run_pure, Result.andThen_ok, hr]
  exact h
#print axioms app2_told
end Go.Proofs.Ytkafeadgjpglaaa
