/-
  Merged: IdInsMath, RfRootMath, IdOne, OrdFinds, OrdIn, IdRefSort.
-/
import Derived.Test.YtkhcoefcifaaeaaDoorGrp15
import Derived.Test.YtkhcoefcifaaeaaDoorGrp12
import Derived.Test.YtkhcoefcifaaeaaDoorGrp16
import Derived.Great.BuildSlice
import Derived.Test.YtkhcoefcifaaeaaDoorIdMerge
namespace Go.Proofs.YtkhcoefcifaaeaaDoor
open Go.RowKit

/-- How far one more has come: what stands ahead of place k is as it was, what stood behind it has moved on by one. -/
structure Ins (S : List (List UInt8)) (x : List UInt8) (k : Nat) (R : List (List UInt8)) : Prop where
  le : k ≤ S.length
  len : R.length = S.length + 1
  head : R.take k = S.take k
  rest : R.drop (k + 1) = S.drop k
  gt : ∀ j, k ≤ j → j < S.length → 0 < cmpF (S.getD j []) x

theorem Ins.start (S : List (List UInt8)) (x y : List UInt8) : Ins S x S.length (S ++ [y]) :=
  ⟨Nat.le_refl _, by simp, by simp, by simp, fun j h1 h2 => by omega⟩
theorem Ins.read {S R : List (List UInt8)} {x : List UInt8} {k : Nat} (h : Ins S x k R) (hk : 0 < k) : R.getD (k - 1) [] = S.getD (k - 1) [] := by
  have h1 : (R.take k).getD (k - 1) [] = (S.take k).getD (k - 1) [] := by rw [h.head]
  rwa [getD_takeI (by omega), getD_takeI (by omega)] at h1
theorem drop_getD {L : List (List UInt8)} {k : Nat} (h : k < L.length) : L.drop k = L.getD k [] :: L.drop (k + 1) := by
  rw [List.drop_eq_getElem_cons h]
  simp [h]
theorem Ins.step {S R : List (List UInt8)} {x : List UInt8} {k : Nat} (h : Ins S x k R) (hk : 0 < k) (hc : 0 < cmpF (S.getD (k - 1) []) x) : Ins S x (k - 1) (R.set k (S.getD (k - 1) [])) := by
  have hle := h.le
  have hlen := h.len
  refine ⟨by omega, by rw [List.length_set]; exact hlen, ?_, ?_, fun j h1 h2 => ?_⟩
  · rw [List.take_set_of_le (by omega)]
    have h1 : (R.take k).take (k - 1) = (S.take k).take (k - 1) := by rw [h.head]
    rwa [List.take_take, List.take_take, show min (k - 1) k = k - 1 from by omega] at h1
  · rw [show k - 1 + 1 = k from by omega]
    have e : (R.set k (S.getD (k - 1) [])).drop k = S.getD (k - 1) [] :: R.drop (k + 1) := by
      rw [List.set_eq_take_append_cons_drop, if_pos (by omega), List.drop_append]
      have : (R.take k).length = k := by simp; omega
      rw [List.drop_eq_nil_of_le (by omega), this, Nat.sub_self]
      rfl
    rw [e, h.rest, drop_getD (L := S) (k := k - 1) (by omega), show k - 1 + 1 = k from by omega]
  · rcases Nat.lt_or_ge j k with h3 | h3
    · obtain rfl : j = k - 1 := by omega
      exact hc
    · exact h.gt j h3 h2
theorem Ins.end {S R : List (List UInt8)} {x : List UInt8} {k : Nat} (h : Ins S x k R) (hu : Up S) (hc : k = 0 ∨ cmpF (S.getD (k - 1) []) x ≤ 0) : Up (R.set k x) ∧ (R.set k x).Perm (S ++ [x]) := by
  have hle := h.le
  have hlen := h.len
  have e : R.set k x = S.take k ++ x :: S.drop k := by
    rw [List.set_eq_take_append_cons_drop, if_pos (by omega), h.head, h.rest]
  rw [e]
  refine ⟨insert_up hu x k hle (fun i hi => ?_) (fun i h1 h2 => h.gt i h1 h2), insert_perm S x k⟩
  rcases hc with hc | hc
  · omega
  · rcases Nat.lt_or_ge i (k - 1) with h3 | h3
    · exact cmpF_le_trans (up_at hu h3 (by omega)) hc
    · obtain rfl : i = k - 1 := by omega
      exact hc

theorem Ins.next {l S R : List (List UInt8)} {x : List UInt8} {k i : Nat} (h : Ins S x k R) (hu : Up S) (hp : S.Perm (l.take i)) (hi : i < l.length) (hx : x = l.getD i []) (hc : k = 0 ∨ cmpF (S.getD (k - 1) []) x ≤ 0) :
    Up (R.set k x) ∧ (R.set k x).Perm (l.take (i + 1)) := by
  obtain ⟨h1, h2⟩ := h.end hu hc
  refine ⟨h1, h2.trans ?_⟩
  rw [take_snoc hi, ← hx]
  exact hp.append (List.Perm.refl _)

/-- A store into what the call owns. -/
theorem OwnI.store {w : World} {base g n c : Nat} {L : List (List UInt8)} (h : OwnI w base (.slice (some ⟨g, 0, none⟩) n c) L) (i : Nat) (hi : i < L.length) (x : List UInt8) (hx : x.length = 32) :
    OwnI (w.setCells g (i * 32) (x.map B)) base (.slice (some ⟨g, 0, none⟩) n c) (L.set i x) := by
  have hrow : RowC w g L := by
    have hnl : L.length = n := by
      obtain ⟨a2, c2, hv, _⟩ := h.ids
      simp only [Value.slice.injEq] at hv
      exact hv.2.1.symm
    obtain ⟨g2, hg2, _, hr, _⟩ := h.row (by omega)
    simp only [Option.some.injEq, Addr.mk.injEq, and_true] at hg2
    subst hg2
    exact hr
  have hrow' := hrow.store i hi x hx
  obtain ⟨⟨h1, h2⟩, h5⟩ := h
  refine ⟨⟨by rw [List.length_set, flat_length (h5.set i hx), List.length_set], ?_⟩, h5.set i hx⟩
  rcases h2 with ⟨hv, hz⟩ | ⟨g', cap, cur, hv, hb, hg, hle, hm, hs, ht⟩
  · omega
  · simp only [Value.slice.injEq, Option.some.injEq, Addr.mk.injEq, and_true] at hv
    obtain ⟨rfl, rfl, rfl⟩ := hv
    have hlen := flat_length h5
    have key : ∀ (vs : List Value) (o : Nat) (w : World) (cur : Array Value), w.heap[g]? = some (.cells cur 24 (0, 0)) → ∃ cur', (w.setCells g o vs).heap[g]? = some (.cells cur' 24 (0, 0)) ∧ cur'.size = cur.size := by
      intro vs
      induction vs with
      | nil => intro o w cur h; exact ⟨cur, h, rfl⟩
      | cons v r ih =>
        intro o w cur h
        have h' := heap_setCell_same w g o cur 24 v h
        obtain ⟨cur', h3, h4⟩ := ih (o + 1) _ _ h'
        exact ⟨cur', h3, by rw [h4]; simp⟩
    obtain ⟨cur', h6, h7⟩ := key (x.map B) (i * 32) w cur hg
    rw [List.length_set]
    refine .inr ⟨g, _, cur', rfl, hb, h6, hle, hm, by rw [h7]; exact hs, ?_⟩
    have hfl := flat_length hrow'.1
    rw [List.length_set] at hfl
    apply List.ext_getElem
    · have h9 : cur'.toList.length = cur.size := h7
      have h10 : L.length * 32 ≤ c * 32 := Nat.mul_le_mul_right 32 hle
      rw [List.length_take, h9, hs, hfl]
      exact Nat.min_eq_left h10
    · intro j hj1 hj2
      have h8 := hrow'.2.1 j _ (List.getElem?_eq_getElem hj2)
      rw [Nat.zero_add, cell_of_row _ g j cur' 24 (0, 0) h6] at h8
      rw [List.getElem_take, ← Option.some.injEq, ← h8]
      simp only [Array.getElem_toList]
      rw [Array.getElem?_eq_getElem]

/-! ### What is once there, as far as it goes -/
theorem onceF_snoc (l : List (List UInt8)) (x : List UInt8) : ∀ out, onceF out (l ++ [x]) = (if x ∈ onceF out l then onceF out l else onceF out l ++ [x]) := by
  induction l with
  | nil => intro out; rfl
  | cons y r ih => intro out; show onceF _ (r ++ [x]) = _; rw [ih]; rfl
theorem onceF_length (l : List (List UInt8)) : ∀ out, (onceF out l).length ≤ out.length + l.length := by
  induction l with
  | nil => intro out; simp [onceF]
  | cons y r ih =>
    intro out
    rw [onceF]
    have := ih (if y ∈ out then out else out ++ [y])
    refine Nat.le_trans this ?_
    split
    all_goals (simp only [List.length_append, List.length_cons, List.length_nil]; omega)

/-- Those of a list that are in another one, or aren't. -/
def inF (b : List (List UInt8)) (t : Bool) (l : List (List UInt8)) : List (List UInt8) := l.filter fun x => decide (x ∈ b) == t
theorem inF_snoc (b : List (List UInt8)) (t : Bool) (l : List (List UInt8)) (x : List UInt8) : inF b t (l ++ [x]) = if decide (x ∈ b) = t then inF b t l ++ [x] else inF b t l := by
  unfold inF
  rw [List.filter_append]
  by_cases h : decide (x ∈ b) = t
  · rw [if_pos h]; simp [h]
  · rw [if_neg h]
    have : (decide (x ∈ b) == t) = false := by simpa using h
    simp [this]
theorem inF_length (b : List (List UInt8)) (t : Bool) (l : List (List UInt8)) : (inF b t l).length ≤ l.length := List.length_filter_le _ _
theorem inF_mem (b : List (List UInt8)) (t : Bool) (l : List (List UInt8)) (x : List UInt8) : x ∈ inF b t l ↔ x ∈ l ∧ decide (x ∈ b) = t := by
  unfold inF
  rw [List.mem_filter, beq_iff_eq]
#print axioms Ins.next
#print axioms OwnI.store
#print axioms onceF_snoc
end Go.Proofs.YtkhcoefcifaaeaaDoor

namespace Go.Proofs.YtkhcoefcifaaeaaDoor
open Go.RowKit

def logIds (l : List EntV) : List (List UInt8) := l.flatMap fun e => [e.upd.old, e.upd.new]
theorem logIds_snoc (l : List EntV) (x : EntV) : logIds (l ++ [x]) = logIds l ++ [x.upd.old, x.upd.new] := by simp [logIds]
/-- All that are told by names and by the log. -/
def namedIds (r : RefsV) : List (List UInt8) := (r.br ++ r.tg).map (·.2) ++ logIds r.log
def idsF (r : RefsV) : List (List UInt8) := r.at_ :: namedIds r
def rootsF (r : RefsV) : List (List UInt8) := setF (inF [idZero] false (idsF r))
theorem rootsF_mem (r : RefsV) (x : List UInt8) : x ∈ rootsF r ↔ x ∈ idsF r ∧ x ≠ idZero := by
  unfold rootsF
  rw [setF_mem, inF_mem, decide_eq_false_iff_not, List.mem_singleton]
theorem moveF_ids {L : List RName} {u : UpdV} (h0 : (moveF L u).2 = 0) {x : List UInt8} (hx : x ∈ L.map (·.2)) : x ∈ (moveF L u).1.map (·.2) ∨ x = u.old := by
  unfold moveF at h0 ⊢
  by_cases hn : nameF u.name = false
  · rw [if_pos hn] at h0; cases h0
  rw [if_neg hn] at h0 ⊢
  by_cases ho : (if thereF L u.name then (gd L (findF L u.name)).2 else idZero) ≠ u.old
  · rw [if_pos ho] at h0; cases h0
  rw [if_neg ho] at h0 ⊢
  have ho : (if thereF L u.name then (gd L (findF L u.name)).2 else idZero) = u.old := Classical.byContradiction ho
  obtain ⟨y, hy, rfl⟩ := List.mem_map.1 hx
  by_cases ht : thereF L u.name = true
  · rw [if_pos ht] at h0 ho ⊢
    obtain ⟨m1, m2, m3⟩ := there_mem ht
    obtain ⟨j, hj, rfl⟩ := List.mem_iff_getElem.1 hy
    by_cases hk : j = findF L u.name
    · right
      rw [← ho, gd_get m2]
      subst hk; rfl
    · left
      by_cases hz : u.new = idZero
      · rw [if_pos hz]
        exact List.mem_map.2 ⟨_, List.mem_eraseIdx_iff_getElem.2 ⟨j, hj, hk, rfl⟩, rfl⟩
      · rw [if_neg hz]
        refine List.mem_map.2 ⟨L[j], List.mem_iff_getElem.2 ⟨j, by simpa using hj, ?_⟩, rfl⟩
        exact List.getElem_set_ne (fun h => hk h.symm) _
  · rw [if_neg ht] at h0 ho ⊢
    left
    by_cases hz : u.new = idZero
    · rw [if_pos hz]; exact List.mem_map.2 ⟨y, hy, rfl⟩
    · rw [if_neg hz] at h0 ⊢
      by_cases h64 : L.length = 64
      · rw [if_pos h64] at h0; cases h0
      · rw [if_neg h64]
        refine List.mem_map.2 ⟨y, ?_, rfl⟩
        have hy2 : y ∈ L.take (findF L u.name) ++ L.drop (findF L u.name) := by rw [List.take_append_drop]; exact hy
        rcases List.mem_append.1 hy2 with h | h
        · exact List.mem_append_left _ h
        · exact List.mem_append_right _ (List.mem_cons_of_mem _ h)
theorem oneR_ids {r : RefsV} {u : UpdV} (h0 : (oneR r u).2 = 0) {x : List UInt8} (hx : x ∈ (r.br ++ r.tg).map (·.2)) : x ∈ ((oneR r u).1.br ++ (oneR r u).1.tg).map (·.2) ∨ x = u.old := by
  rw [List.map_append, List.mem_append] at hx ⊢
  revert h0
  unfold oneR
  split
  · unfold branchF
    split
    · intro h0; cases h0
    · intro h0
      rcases hx with hx | hx
      · rcases moveF_ids h0 hx with h | h
        · exact .inl (.inl h)
        · exact .inr h
      · exact .inl (.inr hx)
  split
  · unfold tagF
    split
    · intro h0; cases h0
    · intro h0
      rcases hx with hx | hx
      · exact .inl (.inl hx)
      · rcases moveF_ids h0 hx with h | h
        · exact .inl (.inr h)
        · exact .inr h
  split
  · unfold headUF
    split
    · intro h0; cases h0
    split
    · intro h0; cases h0
    · intro _; exact .inl hx
  · intro h0; cases h0
theorem oneR_log {r : RefsV} {u : UpdV} : (oneR r u).1.log = r.log := by
  unfold oneR branchF tagF headUF
  repeat' split
  all_goals rfl
theorem step_ids {r : RefsV} {u : UpdV} {n : List UInt8} (hl : r.log.length + 1 ≤ 64) (h0 : (oneR r u).2 = 0) {x : List UInt8} (hx : x ∈ namedIds r) : x ∈ namedIds (logF (oneR r u).1 ⟨u, n⟩) := by
  have e : (logF (oneR r u).1 ⟨u, n⟩).log = r.log ++ [⟨u, n⟩] := by
    show (if (oneR r u).1.log.length = 64 then (oneR r u).1.log.eraseIdx 0 else (oneR r u).1.log) ++ [_] = _
    rw [oneR_log, if_neg (by omega)]
  unfold namedIds at hx ⊢
  rw [e, logIds_snoc]
  rcases List.mem_append.1 hx with hx | hx
  · rcases oneR_ids h0 hx with h | h
    · exact List.mem_append_left _ h
    · refine List.mem_append_right _ (List.mem_append_right _ ?_)
      rw [h]; exact List.mem_cons_self
  · exact List.mem_append_right _ (List.mem_append_left _ hx)
theorem applyF_ids {n : List UInt8} : ∀ (L : List UpdV) {r : RefsV}, r.log.length + L.length ≤ 64 → (applyF n r L).2 = 0 → ∀ x, x ∈ namedIds r → x ∈ namedIds (applyF n r L).1
  | [], _, _, _ => fun _ h => h
  | u :: us, r, hl, h0 => fun x hx => by
    unfold applyF at h0 ⊢
    rw [List.length_cons] at hl
    split at h0
    · rename_i h1
      rw [if_pos h1]
      have e : (logF (oneR r u).1 ⟨u, n⟩).log.length = r.log.length + 1 := by
        show ((if (oneR r u).1.log.length = 64 then (oneR r u).1.log.eraseIdx 0 else (oneR r u).1.log) ++ [_]).length = _
        rw [oneR_log, if_neg (by omega), List.length_append]; rfl
      exact applyF_ids us (by omega) h0 x (step_ids (by omega) h1 hx)
    · rename_i h1
      exact absurd h0 h1
/-- Nothing but the head's own id is lost. -/
theorem lost_at {n : List UInt8} {L : List UpdV} {r : RefsV} (hl : r.log.length + L.length ≤ 64) (h0 : (applyF n r L).2 = 0) (x : List UInt8) (hx : x ∈ setF (inF (rootsF (applyF n r L).1) false (rootsF r))) : x = r.at_ := by
  rw [setF_mem, inF_mem, decide_eq_false_iff_not, rootsF_mem, rootsF_mem] at hx
  obtain ⟨⟨h1, h2⟩, h3⟩ := hx
  rcases List.mem_cons.1 h1 with h | h
  · exact h
  · exact absurd ⟨List.mem_cons_of_mem _ (applyF_ids L hl h0 x h), h2⟩ h3
theorem ids_32 {r : RefsV} (hb : ∀ x ∈ r.br, x.2.length = 32) (hg : ∀ x ∈ r.tg, x.2.length = 32) (hl : ∀ e ∈ r.log, UpOk e.upd) (ha : r.at_.length = 32) : W32 (idsF r) := fun x hx => by
  rcases List.mem_cons.1 hx with rfl | hx
  · exact ha
  rcases List.mem_append.1 hx with hx | hx
  · obtain ⟨y, hy, rfl⟩ := List.mem_map.1 hx
    rcases List.mem_append.1 hy with h | h
    · exact hb y h
    · exact hg y h
  · obtain ⟨e, he, hx⟩ := List.mem_flatMap.1 hx
    simp only [List.mem_cons, List.not_mem_nil, or_false] at hx
    rcases hx with rfl | rfl
    · exact (hl e he).2.1
    · exact (hl e he).2.2
theorem logIds_len (l : List EntV) : (logIds l).length = 2 * l.length := by
  induction l with
  | nil => rfl
  | cons x l ih => unfold logIds at ih ⊢; rw [List.flatMap_cons, List.length_append, ih]; simp; omega
theorem idsF_len (r : RefsV) : (idsF r).length = 1 + (r.br.length + r.tg.length) + 2 * r.log.length := by
  unfold idsF namedIds
  rw [List.length_cons, List.length_append, List.length_map, List.length_append, logIds_len]; omega
#print axioms lost_at
end Go.Proofs.YtkhcoefcifaaeaaDoor

namespace Go.Proofs.YtkhcoefcifaaeaaDoor
open Go.RowKit

theorem run_one (w : World) {x : List UInt8} (hx : x.length = 32) : (Instr.buildSlice 39 1 #[(0, .agg (idCells x))]).run Tryd.prog w = .ok (.slice (some ⟨w.heap.size, 0, none⟩) 1 1) (w.alloc (.cells (idCells x) 24)) := by
  obtain ⟨i0, hi, hz0, hz1, hz2⟩ := info_parts Tryd.infoI24
  obtain ⟨r, h1, h2, h3⟩ := Great.fill_dense (s := 32) (by omega) [.agg (idCells x)] 0 ((Array.range (1 * 32)).map ((Value.agg (idCells idZero)).cells[· % (Value.agg (idCells idZero)).cells.size]!)) (fun v hv => by
    simp only [List.mem_singleton] at hv; subst hv; exact idCells_size hx) (by simp)
  have e : r = idCells x := by
    apply Array.ext_getElem?
    intro k
    rw [h3 k]
    by_cases hk : k < 32
    · rw [if_pos (by simp; omega), show k / 32 - 0 = 0 from by omega, Nat.mod_eq_of_lt hk]; rfl
    · rw [if_neg (by simp; omega), Array.getElem?_eq_none (by simp; omega), Array.getElem?_eq_none (by rw [idCells_size hx]; omega)]
  refine run_buildSlice w _ _ 1 _ (idCells x) i0 _ Tryd.underlying39 hi hz0 (by rw [hz1]; omega) (by rw [hz1]; omega) ?_
  rw [hz1]
  rw [e] at h1
  exact h1

theorem wl_one {w : World} {ops : Array Oper} {rest : List Oper} {o : Oper} {a : Act} {Q : Exit → Act → World → Prop} (hgd : o.guard = none) (x : Operand) (ho : o.op = .buildSlice 39 1 #[(0, x)])
    (l : List UInt8) (hl : l.length = 32) (hx : a.eval x = .agg (idCells l))
    (h : wpList Tryd.prog ops Q rest (a.put o.dst (.slice (some ⟨w.heap.size, 0, none⟩) 1 1)) (w.alloc (.cells (idCells l) 24))) : wpList Tryd.prog ops Q (o :: rest) a w := by
  refine wpList_ok hgd ?_ h
  unfold execOp
  simp only [ho, List.map_toArray, List.map_cons, List.map_nil, hx, Sem.run_bind, run_one w hl, Result.andThen_ok, Sem.run_pure]

theorem ids_new (w : World) {x : List UInt8} (hx : x.length = 32) : IdsAt (w.alloc (.cells (idCells x) 24)) (some ⟨w.heap.size, 0, none⟩) 1 1 [x] :=
  ⟨rfl, Nat.le_refl _, by omega, (fun y hy => by simp only [List.mem_singleton] at hy; subst hy; exact hx), .inr ⟨_, 0, rfl, by
    have h := (idAt_new w x hx).range
    have e : flat [x] = x.map B := by simp [flat]
    rwa [e]⟩⟩

/-- What one more comes to, behind what the call owns. -/
def MoreI (base : Nat) (w : World) (L : List (List UInt8)) (v' : Value) (w' : World) : Prop := ∃ g c, v' = .slice (some ⟨g, 0, none⟩) L.length c ∧ base ≤ g ∧ OwnI w' base v' L ∧ Below base w w'

theorem more_of {base : Nat} {w w1 w' : World} {v v' : Value} {L : List (List UInt8)} (h : OwnI w' base v' L) (hp : 0 < L.length) (hb : Below base w w1) (hg : w1.grownBy w' v.ownBlock) (hv : ∀ k, v.ownBlock = some k → base ≤ k) (hs : base ≤ w1.heap.size) : MoreI base w L v' w' := by
  obtain ⟨a, c, rfl, _⟩ := h.ids
  obtain ⟨g, rfl, hgb, _⟩ := h.row hp
  exact ⟨g, c, rfl, hgb, h, hb.grown hg hs hv⟩

end Go.Proofs.YtkhcoefcifaaeaaDoor

namespace Go.Proofs.YtkhcoefcifaaeaaDoor
open Go.RowKit

end Go.Proofs.YtkhcoefcifaaeaaDoor

namespace Go.Proofs.YtkhcoefcifaaeaaDoor
open Go.RowKit

theorem wanted_plain {o : Oper} {l} (h : o.guard = none) : Region.wanted o l = true := by unfold Region.wanted; rw [h]

theorem findF_set (l : List (List UInt8)) (y : List UInt8) : findIF (setF l) y = (aheadF (setF l) y, decide (y ∈ l)) := by
  unfold findIF
  rw [if_pos ((isSetF_iff _).2 (setF_set l))]
  congr 1
  rw [Bool.eq_iff_iff, decide_eq_true_iff, decide_eq_true_iff]
  exact setF_mem l y
theorem in_at (a : Option Addr) (n c : Nat) (l : List (List UInt8)) (x : List UInt8) (b : Bool) (w : World) (ha : IdsAt w a n c l) (hx : x.length = 32) (hn : n ≤ 1000000000) (hb : b = decide (x ∈ l)) :
    Calls Tryd.prog 42 #[.slice a n c, .agg (idCells x)] w fun e w' => e = .returned (.bool b) ∧ Below w.heap.size w w' := by
  subst hb
  exact in_any a n c l x w ha hx (by omega)
theorem set_at (a : Option Addr) (n c m : Nat) (l : List (List UInt8)) (w : World) (hb : IdsAt w a n c l) (hl : n ≤ 1000000000) (hm : m = (setF l).length) :
    Calls Tryd.prog 52 #[.slice a n c] w fun e w' => ∃ a1 c1, e = .returned (.slice a1 m c1) ∧ IdsAt w' a1 m c1 (setF l) ∧ Below w.heap.size w w' := by
  subst hm
  exact set_any a n c l w hb hl
theorem nodup_le : ∀ (s l : List (List UInt8)), s.Nodup → (∀ x ∈ s, x ∈ l) → s.length ≤ l.length
  | [], _, _, _ => Nat.zero_le _
  | x :: s, l, hn, h => by
    rw [List.nodup_cons] at hn
    have hx := h x (by simp)
    have := nodup_le s (l.erase x) hn.2 (fun y hy => (List.mem_erase_of_ne (show y ≠ x from fun e => hn.1 (e ▸ hy))).2 (h y (by simp [hy])))
    rw [List.length_erase_of_mem hx] at this
    have hp := List.length_pos_of_mem hx
    rw [List.length_cons]
    omega
theorem setF_length_le (l : List (List UInt8)) : (setF l).length ≤ l.length := by
  have h1 : (setF l).Nodup := (setF_set l).nodup
  exact nodup_le _ _ h1 (fun x hx => (setF_mem l x).1 hx)

end Go.Proofs.YtkhcoefcifaaeaaDoor

namespace Go.Proofs.YtkhcoefcifaaeaaDoor
open Go.RowKit

set_option maxRecDepth 100000 in
set_option maxHeartbeats 4000000 in
theorem refSort_any (a : Option Addr) (n c : Nat) (l : List (List UInt8)) (w : World) (hb : IdsAt w a n c l) (hl : n ≤ 1000000000) :
    Calls Tryd.prog 58 #[.slice a n c] w (MadeI w (sortF l)) := by
  have HA := Lib.hid hb
  have HLN := Lib.hid hb.1
  have hnI : (n : Int) ≤ 1000000000 := by omega
  have hn0 : (0 : Int) ≤ (n : Int) := by omega
  have HO := Lib.hid (OwnI.nil w w.heap.size)
  have HUP := Lib.hid (show Up [] ∧ ([] : List (List UInt8)).Perm (l.take 0) from ⟨List.Pairwise.nil, List.Perm.refl _⟩)
  clear hb hl
  go_enter Tryd.func58, Tryd.ntmps58
  go_wp2
  go_loopg [3, 4] n (fun g v3 v4 W => ∃ (i : Nat) (S : List (List UInt8)) (aS : Option Addr) (cS : Nat), v3 = .slice aS i cS ∧ v4 = .int .i64 i ∧ g + i = n ∧ Below w.heap.size w W ∧ Hid (OwnI W w.heap.size (.slice aS i cS) S) ∧ Hid (S.length = i) ∧ Hid (Up S ∧ S.Perm (l.take i)))
  case atStart => exact ⟨0, [], none, 0, rfl, rfl, rfl, Below.refl _ _, HO, Lib.hid rfl, HUP⟩
  case round =>
    clear HO HUP
    obtain ⟨i, S, aS, cS, rfl, rfl, hg, hbw, HOW, HSL, HUP⟩ := hrel
    have HG := Lib.hid hg
    have hi0 : (0 : Int) ≤ (i : Int) := by omega
    have hiI : (i : Int) ≤ (n : Int) := by omega
    by_cases hi : (i : Int) < (n : Int)
    · obtain ⟨ba, oa, rfl⟩ := HA.out.some_ (by omega)
      obtain ⟨x, hx⟩ : ∃ x, x = l.getD i [] := ⟨_, rfl⟩
      have HXE := Lib.hid hx
      have HX := Lib.hid (show x.length = 32 by rw [hx]; exact getD_32 HA.out.2.2.2.1 (by rw [HLN.out]; omega))
      have HCA := Lib.hid (show wr.rangeAt ba (oa + i * 32) (x.map B) by have := (HA.out.below hbw).at_ i (by omega); rwa [← hx] at this)
      have HIN := Lib.hid (show i < n by omega)
      have HBS := Lib.hid hbw.size
      have HOWA := Lib.hid (HOW.out.alloc (.cells (idCells x) 24))
      have HIDS := Lib.hid (ids_new wr HX.out)
      have H48 := Lib.hid (show (S.length + 1) * 32 ≤ 140737488355328 by rw [HSL.out]; have := HIN.out; omega)
      have HBA := Lib.hid (show w.heap.size ≤ (wr.alloc (.cells (idCells x) 24)).heap.size by have := HBS.out; simp; omega)
      clear hg hx
      go_wp2_with (first
        | ((with_reducible show wpList _ _ _ (⟨some 18, _, _, _, _, _⟩ :: _) _ _); refine wl_load (wanted_plain rfl) _ rfl ba (oa + i * 32) x HX.out rfl HCA.out ?_)
        | ((with_reducible show wpList _ _ _ (⟨some 19, _, _, _, _, _⟩ :: _) _ _); refine wl_one rfl _ rfl x HX.out rfl ?_)
        | (at_builtin; go_must (refine app_ids rfl (.tmp 14) (.tmp 19) rfl w.heap.size _ S rfl HOWA.out _ 1 1 [x] rfl HIDS.out H48.out HBA.out ?_); intro v' w1 hown1 hgr1))
      have HM := Lib.hid (more_of (base := w.heap.size) hown1 (by simp) (hbw.alloc HBS.out _) hgr1 (fun k hk => (HOW.out.lt k hk).1) (by have := HBS.out; simp; omega))
      clear hown1 hgr1
      obtain ⟨g, cv, hv, hgb, hown, hbw1⟩ := HM.out
      have hlen : (S ++ [x]).length = i + 1 := by simp [HSL.out]
      rw [hlen] at hv
      subst hv
      have HOW1 := Lib.hid hown
      have HB1 := Lib.hid hbw1
      have HGB := Lib.hid hgb
      have HI := Lib.hid (show Ins S x i (S ++ [x]) from by have := Ins.start S x x; rwa [HSL.out] at this)
      clear HM hown hbw1 hgb hlen hbw HCA HOW
      go_loopg [5] i (fun g' v5 W => ∃ (k : Nat) (R : List (List UInt8)), v5 = .int .i64 k ∧ Hid (g' = k) ∧ (k : Int) ≤ (i : Int) ∧ Below w.heap.size w W ∧ Hid (OwnI W w.heap.size (.slice (some ⟨g, 0, none⟩) (i + 1) cv) R) ∧ Hid (Ins S x k R))
      case atStart => exact ⟨i, S ++ [x], rfl, Lib.hid rfl, by omega, HB1.out, HOW1, HI⟩
      case round =>
        clear HB1 HOW1 HI
        obtain ⟨k, R, rfl, HG2, hkI, hbw, HOW, HINS⟩ := hrel
        have HK := Lib.hid hkI
        have hgw : Below w.heap.size w wr := hbw
        by_cases hk : k = 0
        · subst hk
          have HF := Lib.hid (HINS.out.next HUP.out.1 HUP.out.2 (by rw [HLN.out]; exact HIN.out) HXE.out (.inl rfl))
          go_wp2
          go_quiet (fail)
          have HCB := Lib.hid (show (wr.drewN nq).rangeAt ba (oa + i * 32) (x.map B) by have := (HA.out.below (Go.below_drewN hbw nq)).at_ i HIN.out; rwa [← HXE.out] at this)
          have HOD := Lib.hid (HOW.out.below (Go.below_drewN (Below.refl _ wr) nq))
          have hbd := Go.below_drewN hbw nq
          clear hbw hgw
          generalize wr.drewN nq = w2 at HCB HOD hbd ⊢
          obtain ⟨_, hgr, _, hrow, hRl, _⟩ := HOD.out.row (by omega)
          simp only [Option.some.injEq, Addr.mk.injEq, and_true] at hgr
          subst hgr
          have HTH := Lib.hid (show w2.there g 0 32 by have := hrow.there_at 0 (by omega); rwa [Nat.zero_mul] at this)
          have HOS := Lib.hid (show OwnI (w2.setCells g 0 (x.map B)) w.heap.size (.slice (some ⟨g, 0, none⟩) (i + 1) cv) (R.set 0 x) by have := HOD.out.store 0 (by omega) x HX.out; rwa [Nat.zero_mul] at this)
          have HBS2 := Lib.hid ((Kept.setCells g 0 (x.map B) w2).below hbd HGB.out hbd.size)
          have HRL := Lib.hid hRl
          clear hrow hRl hbd
          go_wp2_with (first
            | ((with_reducible show wpList _ _ _ (⟨some 51, _, _, _, _, _⟩ :: _) _ _); refine wl_load (wanted_plain rfl) _ rfl ba (oa + i * 32) x HX.out rfl HCB.out ?_)
            | (refine wl_store rfl _ _ rfl g 0 x HX.out rfl rfl HTH.out ?_))
          go_roundg (n - (i + 1))
          case measure => have := HG.out; have := HIN.out; omega
          case rel => exact ⟨i + 1, R.set 0 x, some ⟨g, 0, none⟩, cv, rfl, by go_num, by have := HIN.out; omega, HBS2.out, HOS, Lib.hid (by rw [List.length_set]; exact HRL.out), HF⟩
        · obtain ⟨y, hy⟩ : ∃ y, y = S.getD (k - 1) [] := ⟨_, rfl⟩
          have HYE := Lib.hid hy
          have hRl : R.length = i + 1 := by rw [HINS.out.len, HSL.out]
          have HRL := Lib.hid hRl
          obtain ⟨_, hgr, _, hrow, _⟩ := HOW.out.row (by omega)
          simp only [Option.some.injEq, Addr.mk.injEq, and_true] at hgr
          subst hgr
          have HRD := Lib.hid (hrow.below (Below.refl _ wr).drew)
          have HY := Lib.hid (show y.length = 32 by rw [hy, ← HINS.out.read (by omega)]; exact getD_32 hrow.1 (by omega))
          have HCY := Lib.hid (show wr.drew.rangeAt g ((k - 1) * 32) (y.map B) by have := HRD.out.at_ (k - 1) (by omega); rwa [HINS.out.read (by omega), ← hy] at this)
          have HCB := Lib.hid (show wr.drew.rangeAt ba (oa + i * 32) (x.map B) by have := (HA.out.below hbw.drew).at_ i HIN.out; rwa [← HXE.out] at this)
          have HOD := Lib.hid (show OwnI wr.drew w.heap.size (.slice (some ⟨g, 0, none⟩) (i + 1) cv) R from HOW.out)
          have hbd := hbw.drew
          have k0 : (0 : Int) < (k : Int) := by omega
          have k6 : 0 < k := by omega
          have k1 : IntKind.i64.wrap ((k : Int) - 1) = (k : Int) - 1 := IntWalk.i64_in _ (by omega)
          have k2 : 0 ≤ (k : Int) - 1 := by omega
          have k3 : ((k : Int) - 1).toNat = k - 1 := by omega
          have k4 : (k : Int) - 1 < (i : Int) + 1 := by omega
          have k7 : (1 : Int) ≤ (k : Int) := by omega
          have k5 : k - 1 < i + 1 := by omega
          have HKP := Lib.hid (show 0 < k by omega)
          clear hk hy hRl hrow hbw hgw
          go_wp2
          refine wp_region_still_tail 12 (by kernel_rfl) (by kernel_rfl) ?_
          simp only [List.take_succ_cons, List.take_zero, List.drop_succ_cons, List.drop_zero]
          still_step
          still_step
          still_step
          still_step
          still_step
          still_step
          still_step
          refine still_w (by rfl) (exec_loadId _ rfl _ _ _ HY.out rfl HCY.out) ?_
          simp only [Act.put, List.setIfInBounds_toArray, List.set_cons_zero, List.set_cons_succ]
          still_step
          still_step
          still_step
          refine still_w (by rfl) (exec_loadId _ rfl _ _ _ HX.out rfl HCB.out) ?_
          simp only [Act.put, List.setIfInBounds_toArray, List.set_cons_zero, List.set_cons_succ]
          refine wpStill_nil ?_
          change wpList _ _ _ _ _ wr.drew
          clear k1 k3
          generalize wr.drew = w2 at HCB HCY HRD HOD hbd ⊢
          obtain ⟨z, hz⟩ : ∃ z, z = cmpF y x := ⟨_, rfl⟩
          have HZ := Lib.hid hz
          have HC := fun W => Lib.hid (refCmp_is _ _ z W HY.out HX.out hz)
          clear hz
          by_cases hc : 0 < z
          · have HIS := Lib.hid (show Ins S x (k - 1) (R.set k y) by have h := HINS.out.step HKP.out (by rw [← HYE.out, ← HZ.out]; exact hc); rwa [← HYE.out] at h)
            have hc1 : 1 ≤ z := by omega
            go_wp2_with (first
              | (go_at_call 68; go_must (refine (HC _).out.mono ?_); rintro e w3 ⟨rfl, hb3⟩; have HCY3 := Lib.hid (rangeAt_below HCY.out hb3); have HTH3 := Lib.hid (show w3.there g (k * 32) 32 from (HRD.out.below hb3).there_at k (by rw [HRL.out]; omega)))
              | ((with_reducible show wpList _ _ _ (⟨some 42, _, _, _, _, _⟩ :: _) _ _); refine wl_load (wanted_plain rfl) _ rfl g ((k - 1) * 32) y HY.out rfl HCY3.out ?_)
              | (refine wl_store rfl _ _ rfl g (k * 32) y HY.out rfl rfl HTH3.out ?_))
            have HBS2 := Lib.hid ((Kept.setCells g (k * 32) (y.map B) w3).below (hbd.trans (hb3.mono hbd.size)) HGB.out (hbd.trans (hb3.mono hbd.size)).size)
            have HOS := Lib.hid ((HOD.out.below hb3).store k (by rw [HRL.out]; omega) y HY.out)
            go_roundg (k - 1)
            case measure => have := HG2.out; have := HKP.out; omega
            case rel => exact ⟨k - 1, R.set k y, by congr 1; have := HKP.out; omega, Lib.hid rfl, by have := HK.out; omega, HBS2.out, HOS, HIS⟩
          · have HF := Lib.hid (HINS.out.next HUP.out.1 HUP.out.2 (by rw [HLN.out]; exact HIN.out) HXE.out (.inr (by rw [← HYE.out, ← HZ.out]; omega)))
            have hcf : decide (0 < z) = false := decide_eq_false hc
            clear hc
            go_wp2_with (first
              | (go_at_call 68; go_must (refine (HC _).out.mono ?_); rintro e w3 ⟨rfl, hb3⟩; have HCB3 := Lib.hid (rangeAt_below HCB.out hb3); have HTH3 := Lib.hid (show w3.there g (k * 32) 32 from (HRD.out.below hb3).there_at k (by rw [HRL.out]; omega)))
              | ((with_reducible show wpList _ _ _ (⟨some 51, _, _, _, _, _⟩ :: _) _ _); refine wl_load (wanted_plain rfl) _ rfl ba (oa + i * 32) x HX.out rfl HCB3.out ?_)
              | (refine wl_store rfl _ _ rfl g (k * 32) x HX.out rfl rfl HTH3.out ?_))
            have HBS2 := Lib.hid ((Kept.setCells g (k * 32) (x.map B) w3).below (hbd.trans (hb3.mono hbd.size)) HGB.out (hbd.trans (hb3.mono hbd.size)).size)
            have HOS := Lib.hid ((HOD.out.below hb3).store k (by rw [HRL.out]; omega) x HX.out)
            go_roundg (n - (i + 1))
            case measure => have := HG.out; have := HIN.out; omega
            case rel => exact ⟨i + 1, R.set k x, some ⟨g, 0, none⟩, cv, rfl, by go_num, by have := HIN.out; omega, HBS2.out, HOS, Lib.hid (by rw [List.length_set]; exact HRL.out), HF⟩
    · have HF := Lib.hid (show S = sortF l from sortF_of HUP.out.1 (by have h := HUP.out.2; rwa [List.take_of_length_le (by rw [HLN.out]; omega)] at h))
      clear hg
      go_wp2
      go_ret
      refine MadeI.of ?_ hbw
      rw [← HF.out]
      exact HOW.out
#print axioms refSort_any
end Go.Proofs.YtkhcoefcifaaeaaDoor
