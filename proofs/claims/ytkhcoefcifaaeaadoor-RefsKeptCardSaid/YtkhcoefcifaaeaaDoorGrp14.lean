/-
  Merged: IdInsMath, RfRootMath.
-/
import Derived.Test.YtkhcoefcifaaeaaDoorGrp13
import Derived.Test.YtkhcoefcifaaeaaDoorGrp12
namespace Go.Proofs.YtkhcoefcifaaeaaDoor
open Go.RowKit

/-- How far one more has come: what stands ahead of place k is as it was, what stood behind it has moved on by one. -/
structure Ins (S : List (List UInt8)) (x : List UInt8) (k : Nat) (R : List (List UInt8)) : Prop where
  le : k ≤ S.length
  len : R.length = S.length + 1
  head : R.take k = S.take k
  rest : R.drop (k + 1) = S.drop k
  gt : ∀ j, k ≤ j → j < S.length → 0 < cmpF (S.getD j []) x

theorem Ins.start (S : List (List UInt8)) (x y : List UInt8) : Ins S x S.length (S ++ [y]) :=
  ⟨Nat.le_refl _, by simp, by simp, by simp, fun j h1 h2 => by omega⟩
theorem Ins.read {S R : List (List UInt8)} {x : List UInt8} {k : Nat} (h : Ins S x k R) (hk : 0 < k) : R.getD (k - 1) [] = S.getD (k - 1) [] := by
  have h1 : (R.take k).getD (k - 1) [] = (S.take k).getD (k - 1) [] := by rw [h.head]
  rwa [getD_takeI (by omega), getD_takeI (by omega)] at h1
theorem drop_getD {L : List (List UInt8)} {k : Nat} (h : k < L.length) : L.drop k = L.getD k [] :: L.drop (k + 1) := by
  rw [List.drop_eq_getElem_cons h]
  simp [h]
theorem Ins.step {S R : List (List UInt8)} {x : List UInt8} {k : Nat} (h : Ins S x k R) (hk : 0 < k) (hc : 0 < cmpF (S.getD (k - 1) []) x) : Ins S x (k - 1) (R.set k (S.getD (k - 1) [])) := by
  have hle := h.le
  have hlen := h.len
  refine ⟨by omega, by rw [List.length_set]; exact hlen, ?_, ?_, fun j h1 h2 => ?_⟩
  · rw [List.take_set_of_le (by omega)]
    have h1 : (R.take k).take (k - 1) = (S.take k).take (k - 1) := by rw [h.head]
    rwa [List.take_take, List.take_take, show min (k - 1) k = k - 1 from by omega] at h1
  · rw [show k - 1 + 1 = k from by omega]
    have e : (R.set k (S.getD (k - 1) [])).drop k = S.getD (k - 1) [] :: R.drop (k + 1) := by
      rw [List.set_eq_take_append_cons_drop, if_pos (by omega), List.drop_append]
      have : (R.take k).length = k := by simp; omega
      rw [List.drop_eq_nil_of_le (by omega), this, Nat.sub_self]
      rfl
    rw [e, h.rest, drop_getD (L := S) (k := k - 1) (by omega), show k - 1 + 1 = k from by omega]
  · rcases Nat.lt_or_ge j k with h3 | h3
    · obtain rfl : j = k - 1 := by omega
      exact hc
    · exact h.gt j h3 h2
theorem Ins.end {S R : List (List UInt8)} {x : List UInt8} {k : Nat} (h : Ins S x k R) (hu : Up S) (hc : k = 0 ∨ cmpF (S.getD (k - 1) []) x ≤ 0) : Up (R.set k x) ∧ (R.set k x).Perm (S ++ [x]) := by
  have hle := h.le
  have hlen := h.len
  have e : R.set k x = S.take k ++ x :: S.drop k := by
    rw [List.set_eq_take_append_cons_drop, if_pos (by omega), h.head, h.rest]
  rw [e]
  refine ⟨insert_up hu x k hle (fun i hi => ?_) (fun i h1 h2 => h.gt i h1 h2), insert_perm S x k⟩
  rcases hc with hc | hc
  · omega
  · rcases Nat.lt_or_ge i (k - 1) with h3 | h3
    · exact cmpF_le_trans (up_at hu h3 (by omega)) hc
    · obtain rfl : i = k - 1 := by omega
      exact hc

theorem Ins.next {l S R : List (List UInt8)} {x : List UInt8} {k i : Nat} (h : Ins S x k R) (hu : Up S) (hp : S.Perm (l.take i)) (hi : i < l.length) (hx : x = l.getD i []) (hc : k = 0 ∨ cmpF (S.getD (k - 1) []) x ≤ 0) :
    Up (R.set k x) ∧ (R.set k x).Perm (l.take (i + 1)) := by
  obtain ⟨h1, h2⟩ := h.end hu hc
  refine ⟨h1, h2.trans ?_⟩
  rw [take_snoc hi, ← hx]
  exact hp.append (List.Perm.refl _)

/-- A store into what the call owns. -/
theorem OwnI.store {w : World} {base g n c : Nat} {L : List (List UInt8)} (h : OwnI w base (.slice (some ⟨g, 0, none⟩) n c) L) (i : Nat) (hi : i < L.length) (x : List UInt8) (hx : x.length = 32) :
    OwnI (w.setCells g (i * 32) (x.map B)) base (.slice (some ⟨g, 0, none⟩) n c) (L.set i x) := by
  have hrow : RowC w g L := by
    have hnl : L.length = n := by
      obtain ⟨a2, c2, hv, _⟩ := h.ids
      simp only [Value.slice.injEq] at hv
      exact hv.2.1.symm
    obtain ⟨g2, hg2, _, hr, _⟩ := h.row (by omega)
    simp only [Option.some.injEq, Addr.mk.injEq, and_true] at hg2
    subst hg2
    exact hr
  have hrow' := hrow.store i hi x hx
  obtain ⟨⟨h1, h2⟩, h5⟩ := h
  refine ⟨⟨by rw [List.length_set, flat_length (h5.set i hx), List.length_set], ?_⟩, h5.set i hx⟩
  rcases h2 with ⟨hv, hz⟩ | ⟨g', cap, cur, hv, hb, hg, hle, hm, hs, ht⟩
  · omega
  · simp only [Value.slice.injEq, Option.some.injEq, Addr.mk.injEq, and_true] at hv
    obtain ⟨rfl, rfl, rfl⟩ := hv
    have hlen := flat_length h5
    have key : ∀ (vs : List Value) (o : Nat) (w : World) (cur : Array Value), w.heap[g]? = some (.cells cur 24 (0, 0)) → ∃ cur', (w.setCells g o vs).heap[g]? = some (.cells cur' 24 (0, 0)) ∧ cur'.size = cur.size := by
      intro vs
      induction vs with
      | nil => intro o w cur h; exact ⟨cur, h, rfl⟩
      | cons v r ih =>
        intro o w cur h
        have h' := heap_setCell_same w g o cur 24 v h
        obtain ⟨cur', h3, h4⟩ := ih (o + 1) _ _ h'
        exact ⟨cur', h3, by rw [h4]; simp⟩
    obtain ⟨cur', h6, h7⟩ := key (x.map B) (i * 32) w cur hg
    rw [List.length_set]
    refine .inr ⟨g, _, cur', rfl, hb, h6, hle, hm, by rw [h7]; exact hs, ?_⟩
    have hfl := flat_length hrow'.1
    rw [List.length_set] at hfl
    apply List.ext_getElem
    · have h9 : cur'.toList.length = cur.size := h7
      have h10 : L.length * 32 ≤ c * 32 := Nat.mul_le_mul_right 32 hle
      rw [List.length_take, h9, hs, hfl]
      exact Nat.min_eq_left h10
    · intro j hj1 hj2
      have h8 := hrow'.2.1 j _ (List.getElem?_eq_getElem hj2)
      rw [Nat.zero_add, cell_of_row _ g j cur' 24 (0, 0) h6] at h8
      rw [List.getElem_take, ← Option.some.injEq, ← h8]
      simp only [Array.getElem_toList]
      rw [Array.getElem?_eq_getElem]

/-! ### What is once there, as far as it goes -/
theorem onceF_snoc (l : List (List UInt8)) (x : List UInt8) : ∀ out, onceF out (l ++ [x]) = (if x ∈ onceF out l then onceF out l else onceF out l ++ [x]) := by
  induction l with
  | nil => intro out; rfl
  | cons y r ih => intro out; show onceF _ (r ++ [x]) = _; rw [ih]; rfl
theorem onceF_length (l : List (List UInt8)) : ∀ out, (onceF out l).length ≤ out.length + l.length := by
  induction l with
  | nil => intro out; simp [onceF]
  | cons y r ih =>
    intro out
    rw [onceF]
    have := ih (if y ∈ out then out else out ++ [y])
    refine Nat.le_trans this ?_
    split
    all_goals (simp only [List.length_append, List.length_cons, List.length_nil]; omega)

/-- Those of a list that are in another one, or aren't. -/
def inF (b : List (List UInt8)) (t : Bool) (l : List (List UInt8)) : List (List UInt8) := l.filter fun x => decide (x ∈ b) == t
theorem inF_snoc (b : List (List UInt8)) (t : Bool) (l : List (List UInt8)) (x : List UInt8) : inF b t (l ++ [x]) = if decide (x ∈ b) = t then inF b t l ++ [x] else inF b t l := by
  unfold inF
  rw [List.filter_append]
  by_cases h : decide (x ∈ b) = t
  · rw [if_pos h]; simp [h]
  · rw [if_neg h]
    have : (decide (x ∈ b) == t) = false := by simpa using h
    simp [this]
theorem inF_length (b : List (List UInt8)) (t : Bool) (l : List (List UInt8)) : (inF b t l).length ≤ l.length := List.length_filter_le _ _
theorem inF_mem (b : List (List UInt8)) (t : Bool) (l : List (List UInt8)) (x : List UInt8) : x ∈ inF b t l ↔ x ∈ l ∧ decide (x ∈ b) = t := by
  unfold inF
  rw [List.mem_filter, beq_iff_eq]
#print axioms Ins.next
#print axioms OwnI.store
#print axioms onceF_snoc
end Go.Proofs.YtkhcoefcifaaeaaDoor

namespace Go.Proofs.YtkhcoefcifaaeaaDoor
open Go.RowKit

def logIds (l : List EntV) : List (List UInt8) := l.flatMap fun e => [e.upd.old, e.upd.new]
theorem logIds_snoc (l : List EntV) (x : EntV) : logIds (l ++ [x]) = logIds l ++ [x.upd.old, x.upd.new] := by simp [logIds]
/-- All that are told by names and by the log. -/
def namedIds (r : RefsV) : List (List UInt8) := (r.br ++ r.tg).map (·.2) ++ logIds r.log
def idsF (r : RefsV) : List (List UInt8) := r.at_ :: namedIds r
def rootsF (r : RefsV) : List (List UInt8) := setF (inF [idZero] false (idsF r))
theorem rootsF_mem (r : RefsV) (x : List UInt8) : x ∈ rootsF r ↔ x ∈ idsF r ∧ x ≠ idZero := by
  unfold rootsF
  rw [setF_mem, inF_mem, decide_eq_false_iff_not, List.mem_singleton]
theorem moveF_ids {L : List RName} {u : UpdV} (h0 : (moveF L u).2 = 0) {x : List UInt8} (hx : x ∈ L.map (·.2)) : x ∈ (moveF L u).1.map (·.2) ∨ x = u.old := by
  unfold moveF at h0 ⊢
  by_cases hn : nameF u.name = false
  · rw [if_pos hn] at h0; cases h0
  rw [if_neg hn] at h0 ⊢
  by_cases ho : (if thereF L u.name then (gd L (findF L u.name)).2 else idZero) ≠ u.old
  · rw [if_pos ho] at h0; cases h0
  rw [if_neg ho] at h0 ⊢
  have ho : (if thereF L u.name then (gd L (findF L u.name)).2 else idZero) = u.old := Classical.byContradiction ho
  obtain ⟨y, hy, rfl⟩ := List.mem_map.1 hx
  by_cases ht : thereF L u.name = true
  · rw [if_pos ht] at h0 ho ⊢
    obtain ⟨m1, m2, m3⟩ := there_mem ht
    obtain ⟨j, hj, rfl⟩ := List.mem_iff_getElem.1 hy
    by_cases hk : j = findF L u.name
    · right
      rw [← ho, gd_get m2]
      subst hk; rfl
    · left
      by_cases hz : u.new = idZero
      · rw [if_pos hz]
        exact List.mem_map.2 ⟨_, List.mem_eraseIdx_iff_getElem.2 ⟨j, hj, hk, rfl⟩, rfl⟩
      · rw [if_neg hz]
        refine List.mem_map.2 ⟨L[j], List.mem_iff_getElem.2 ⟨j, by simpa using hj, ?_⟩, rfl⟩
        exact List.getElem_set_ne (fun h => hk h.symm) _
  · rw [if_neg ht] at h0 ho ⊢
    left
    by_cases hz : u.new = idZero
    · rw [if_pos hz]; exact List.mem_map.2 ⟨y, hy, rfl⟩
    · rw [if_neg hz] at h0 ⊢
      by_cases h64 : L.length = 64
      · rw [if_pos h64] at h0; cases h0
      · rw [if_neg h64]
        refine List.mem_map.2 ⟨y, ?_, rfl⟩
        have hy2 : y ∈ L.take (findF L u.name) ++ L.drop (findF L u.name) := by rw [List.take_append_drop]; exact hy
        rcases List.mem_append.1 hy2 with h | h
        · exact List.mem_append_left _ h
        · exact List.mem_append_right _ (List.mem_cons_of_mem _ h)
theorem oneR_ids {r : RefsV} {u : UpdV} (h0 : (oneR r u).2 = 0) {x : List UInt8} (hx : x ∈ (r.br ++ r.tg).map (·.2)) : x ∈ ((oneR r u).1.br ++ (oneR r u).1.tg).map (·.2) ∨ x = u.old := by
  rw [List.map_append, List.mem_append] at hx ⊢
  revert h0
  unfold oneR
  split
  · unfold branchF
    split
    · intro h0; cases h0
    · intro h0
      rcases hx with hx | hx
      · rcases moveF_ids h0 hx with h | h
        · exact .inl (.inl h)
        · exact .inr h
      · exact .inl (.inr hx)
  split
  · unfold tagF
    split
    · intro h0; cases h0
    · intro h0
      rcases hx with hx | hx
      · exact .inl (.inl hx)
      · rcases moveF_ids h0 hx with h | h
        · exact .inl (.inr h)
        · exact .inr h
  split
  · unfold headUF
    split
    · intro h0; cases h0
    split
    · intro h0; cases h0
    · intro _; exact .inl hx
  · intro h0; cases h0
theorem oneR_log {r : RefsV} {u : UpdV} : (oneR r u).1.log = r.log := by
  unfold oneR branchF tagF headUF
  repeat' split
  all_goals rfl
theorem step_ids {r : RefsV} {u : UpdV} {n : List UInt8} (hl : r.log.length + 1 ≤ 64) (h0 : (oneR r u).2 = 0) {x : List UInt8} (hx : x ∈ namedIds r) : x ∈ namedIds (logF (oneR r u).1 ⟨u, n⟩) := by
  have e : (logF (oneR r u).1 ⟨u, n⟩).log = r.log ++ [⟨u, n⟩] := by
    show (if (oneR r u).1.log.length = 64 then (oneR r u).1.log.eraseIdx 0 else (oneR r u).1.log) ++ [_] = _
    rw [oneR_log, if_neg (by omega)]
  unfold namedIds at hx ⊢
  rw [e, logIds_snoc]
  rcases List.mem_append.1 hx with hx | hx
  · rcases oneR_ids h0 hx with h | h
    · exact List.mem_append_left _ h
    · refine List.mem_append_right _ (List.mem_append_right _ ?_)
      rw [h]; exact List.mem_cons_self
  · exact List.mem_append_right _ (List.mem_append_left _ hx)
theorem applyF_ids {n : List UInt8} : ∀ (L : List UpdV) {r : RefsV}, r.log.length + L.length ≤ 64 → (applyF n r L).2 = 0 → ∀ x, x ∈ namedIds r → x ∈ namedIds (applyF n r L).1
  | [], _, _, _ => fun _ h => h
  | u :: us, r, hl, h0 => fun x hx => by
    unfold applyF at h0 ⊢
    rw [List.length_cons] at hl
    split at h0
    · rename_i h1
      rw [if_pos h1]
      have e : (logF (oneR r u).1 ⟨u, n⟩).log.length = r.log.length + 1 := by
        show ((if (oneR r u).1.log.length = 64 then (oneR r u).1.log.eraseIdx 0 else (oneR r u).1.log) ++ [_]).length = _
        rw [oneR_log, if_neg (by omega), List.length_append]; rfl
      exact applyF_ids us (by omega) h0 x (step_ids (by omega) h1 hx)
    · rename_i h1
      exact absurd h0 h1
/-- Nothing but the head's own id is lost. -/
theorem lost_at {n : List UInt8} {L : List UpdV} {r : RefsV} (hl : r.log.length + L.length ≤ 64) (h0 : (applyF n r L).2 = 0) (x : List UInt8) (hx : x ∈ setF (inF (rootsF (applyF n r L).1) false (rootsF r))) : x = r.at_ := by
  rw [setF_mem, inF_mem, decide_eq_false_iff_not, rootsF_mem, rootsF_mem] at hx
  obtain ⟨⟨h1, h2⟩, h3⟩ := hx
  rcases List.mem_cons.1 h1 with h | h
  · exact h
  · exact absurd ⟨List.mem_cons_of_mem _ (applyF_ids L hl h0 x h), h2⟩ h3
theorem ids_32 {r : RefsV} (hb : ∀ x ∈ r.br, x.2.length = 32) (hg : ∀ x ∈ r.tg, x.2.length = 32) (hl : ∀ e ∈ r.log, UpOk e.upd) (ha : r.at_.length = 32) : W32 (idsF r) := fun x hx => by
  rcases List.mem_cons.1 hx with rfl | hx
  · exact ha
  rcases List.mem_append.1 hx with hx | hx
  · obtain ⟨y, hy, rfl⟩ := List.mem_map.1 hx
    rcases List.mem_append.1 hy with h | h
    · exact hb y h
    · exact hg y h
  · obtain ⟨e, he, hx⟩ := List.mem_flatMap.1 hx
    simp only [List.mem_cons, List.not_mem_nil, or_false] at hx
    rcases hx with rfl | rfl
    · exact (hl e he).2.1
    · exact (hl e he).2.2
theorem logIds_len (l : List EntV) : (logIds l).length = 2 * l.length := by
  induction l with
  | nil => rfl
  | cons x l ih => unfold logIds at ih ⊢; rw [List.flatMap_cons, List.length_append, ih]; simp; omega
theorem idsF_len (r : RefsV) : (idsF r).length = 1 + (r.br.length + r.tg.length) + 2 * r.log.length := by
  unfold idsF namedIds
  rw [List.length_cons, List.length_append, List.length_map, List.length_append, logIds_len]; omega
#print axioms lost_at
end Go.Proofs.YtkhcoefcifaaeaaDoor
