/-
  Merged: RfSlices, RfDelete, RfInsert, RfMove.
-/
import Derived.Test.YtejooogfnnidcaaDoorRfBAll
import Derived.Laws.IdiomCopy
import Derived.Laws.OwnMore
import Derived.Lib.Overlaps
import Derived.Lib.AppendZerosOnto
import Derived.Deep.RegionLaw
import Derived.Great.BuildSlice
namespace Go.Proofs.YtejooogfnnidcaaDoor
open Go.RowKit

def putL : List Value → Nat → List Value → List Value
  | xs, _, [] => xs
  | xs, o, v :: r => putL (xs.set o v) (o + 1) r
theorem putL_length : ∀ (vs xs : List Value) (o : Nat), (putL xs o vs).length = xs.length
  | [], _, _ => rfl
  | v :: r, xs, o => by rw [putL, putL_length r]; simp
theorem putL_get : ∀ (vs xs : List Value) (o j : Nat), (putL xs o vs)[j]? = if o ≤ j ∧ j < o + vs.length ∧ j < xs.length then vs[j - o]? else xs[j]?
  | [], xs, o, j => by rw [putL, if_neg (fun h => by have h1 := h.1; have h2 := h.2.1; simp only [List.length_nil] at h2; omega)]
  | v :: r, xs, o, j => by
    rw [putL, putL_get r]
    simp only [List.length_set, List.length_cons, List.getElem?_set]
    by_cases h1 : o + 1 ≤ j ∧ j < o + 1 + r.length ∧ j < xs.length
    · rw [if_pos h1, if_pos ⟨by omega, by omega, h1.2.2⟩, show j - o = (j - (o + 1)) + 1 from by omega, List.getElem?_cons_succ]
    · rw [if_neg h1]
      by_cases h2 : o = j
      · subst h2
        by_cases h3 : o < xs.length
        · rw [if_pos rfl, if_pos h3, if_pos ⟨Nat.le_refl _, by omega, h3⟩, Nat.sub_self]; rfl
        · rw [if_pos rfl, if_neg h3, if_neg (by omega), List.getElem?_eq_none (by omega)]
      · rw [if_neg h2, if_neg (by omega)]
theorem putL_take (vs xs : List Value) (o m : Nat) (h : m ≤ o) : (putL xs o vs).take m = xs.take m := by
  apply List.ext_getElem?
  intro j
  rw [List.getElem?_take, List.getElem?_take, putL_get]
  by_cases hj : j < m
  · rw [if_pos hj, if_pos hj, if_neg (by omega)]
  · rw [if_neg hj, if_neg hj]
section
variable {w : World} {base : Nat} {e : TypeId} {size g cap n : Nat} {xs : List Value}
theorem own_setCells : ∀ (vs : List Value) (o : Nat) {w : World} {xs : List Value}, w.ownsRow base e size (.slice (some ⟨g, 0, none⟩) n cap) n xs →
    (w.setCells g o vs).ownsRow base e size (.slice (some ⟨g, 0, none⟩) n cap) n (putL xs o vs) ∧ w.grownBy (w.setCells g o vs) (some g)
  | [], _, w, xs, h => ⟨h, ⟨rfl, rfl, rfl, Nat.le_refl _, fun _ _ _ => rfl⟩⟩
  | v :: r, o, w, xs, h => by
    obtain ⟨h1, h2⟩ := World.ownsRow.stored h o v
    obtain ⟨h3, h4⟩ := own_setCells r (o + 1) h1
    exact ⟨h3, h2.trans h4⟩
/-- Fewer of them. -/
theorem own_less (h : w.ownsRow base e size (.slice (some ⟨g, 0, none⟩) n cap) n xs) {m : Nat} (hm : m ≤ n) : w.ownsRow base e size (.slice (some ⟨g, 0, none⟩) m cap) m (xs.take (m * size)) := by
  have hle : m * size ≤ n * size := Nat.mul_le_mul_right _ hm
  refine ⟨by rw [List.length_take, h.1]; omega, ?_⟩
  rcases h.2 with ⟨h', _⟩ | ⟨g', cap', cur, h', hb, hg, hnc, hcm, hcs, htake⟩
  · simp at h'
  · simp only [Value.slice.injEq, Option.some.injEq, Addr.mk.injEq, and_true, true_and] at h'
    obtain ⟨rfl, rfl⟩ := h'
    exact .inr ⟨g, cap, cur, rfl, hb, hg, by omega, hcm, hcs, by rw [← htake, List.take_take, Nat.min_eq_left hle]⟩
/-- More of them, where there is room. -/
theorem own_more (h : w.ownsRow base e size (.slice (some ⟨g, 0, none⟩) n cap) n xs) {m : Nat} (hm : n ≤ m) (hc : m ≤ cap) : ∃ ys, w.ownsRow base e size (.slice (some ⟨g, 0, none⟩) m cap) m (xs ++ ys) ∧ ys.length = (m - n) * size := by
  rcases h.2 with ⟨h', _⟩ | ⟨g', cap', cur, h', hb, hg, hnc, hcm, hcs, htake⟩
  · simp at h'
  · simp only [Value.slice.injEq, Option.some.injEq, Addr.mk.injEq, and_true, true_and] at h'
    obtain ⟨rfl, rfl⟩ := h'
    have h1 : n * size ≤ m * size := Nat.mul_le_mul_right _ hm
    have h2 : m * size ≤ cap * size := Nat.mul_le_mul_right _ hc
    have hcl : cur.toList.length = cap * size := by simpa using hcs
    have hms : m * size = n * size + (m - n) * size := by rw [← Nat.add_mul]; congr 1; omega
    refine ⟨(cur.toList.drop (n * size)).take ((m - n) * size), ⟨?_, .inr ⟨g, cap, cur, rfl, hb, hg, hc, hcm, hcs, ?_⟩⟩, ?_⟩
    · rw [List.length_append, h.1, List.length_take, List.length_drop, hcl]; omega
    · rw [← htake, hms, List.take_add]
    · rw [List.length_take, List.length_drop, hcl]; omega
theorem own_cap (h : w.ownsRow base e size (.slice (some ⟨g, 0, none⟩) n cap) n xs) : n ≤ cap ∧ cap ≤ maxLen ∧ g < w.heap.size ∧ base ≤ g ∧ ∃ cur, w.heap[g]? = some (.cells cur e (0, 0)) ∧ cur.size = cap * size := by
  rcases h.2 with ⟨h', _⟩ | ⟨g', cap', cur, h', hb, hg, hnc, hcm, hcs, htake⟩
  · simp at h'
  · simp only [Value.slice.injEq, Option.some.injEq, Addr.mk.injEq, and_true, true_and] at h'
    obtain ⟨rfl, rfl⟩ := h'
    exact ⟨hnc, hcm, (Array.getElem?_eq_some_iff.1 hg).1, hb, cur, hg, hcs⟩
theorem own_there (h : w.ownsRow base e size (.slice (some ⟨g, 0, none⟩) n cap) n xs) (j : Nat) (hj : j < cap * size) : (w.cell? ⟨g, j, none⟩).isSome = true ∧ w.frozen? ⟨g, j, none⟩ = false := by
  obtain ⟨h1, h2, h3, h4, cur, hg, hs⟩ := own_cap h
  refine ⟨?_, World.ownsRow.frozenAt h j⟩
  have := cell_of_row w g j cur e (0, 0) hg
  rw [this, Array.getElem?_eq_getElem (by omega)]
  rfl
end
/-- copy, for elements of many cells. -/
theorem run_copy_k {P : Program} (w : World) (dT sT ty elem : TypeId) (size b o dLen dCap : Nat) (a : Addr) (sLen sCap m : Nat) (cs : List Value)
    (hu : P.underlying dT = some (.slice elem)) (hs : (P.info? elem).map (·.size) = some size) (hm : m = Nat.min sLen dLen) (hn : cs.length = m * size)
    (hsrc : ∀ j v, cs[j]? = some v → w.cell? (a.add j) = some v) (hc : ∀ j, j < cs.length → (w.cell? ⟨b, o + j, none⟩).isSome = true ∧ w.frozen? ⟨b, o + j, none⟩ = false) (h1 : ∀ v ∈ cs, v.oneCell' = true) :
    (Builtin.copy_ #[dT, sT] ty #[.slice (some ⟨b, o, none⟩) dLen dCap, .slice (some a) sLen sCap]).run P w = .ok (goInt m) (w.setCells b o cs) := by
  have hl := run_firstCells_some (P := P) w size m a sLen sCap cs hn hsrc
  have hst := run_storeCells_cells (P := P) b o cs 0 w (fun j hj => by simpa using (hc j hj).1) (fun j hj => by simpa using (hc j hj).2) h1
  cases hq : P.info? elem with
  | none => simp [hq] at hs
  | some i =>
    have hi : i.size = size := by simpa [hq] using hs
    simp [Builtin.copy_, run_underlying hu, Builtin.lenOf, sizeOf, typeInfo, hq, hi, ← hm, hl, hst]
/-- clear, for elements of many cells. -/
theorem run_clear_k {P : Program} (w : World) (T E ty : TypeId) (z : Array Value) (k : Nat) (hU : P.underlying T = some (.slice E)) (hv : (zeroValue E).run P w = .ok (.agg z) w) (hz : z.size = k) (hone : ∀ v ∈ z.toList, v.oneCell' = true)
    (b o c : Nat) (ht : ∀ j, j < 1 * k → (w.cell? ⟨b, o + j, none⟩).isSome = true ∧ w.frozen? ⟨b, o + j, none⟩ = false) :
    ∃ zs, zs.length = k ∧ (Builtin.clear_ #[T] ty #[.slice (some ⟨b, o, none⟩) 1 c]).run P w = .ok (.tuple #[]) (w.setCells b o zs) := by
  obtain ⟨zs, hzs⟩ : ∃ zs, zs = (Builtin.zeroCells (Value.agg z).cells 1).toList := ⟨_, rfl⟩
  have hlen : zs.length = k := by
    rw [hzs]
    show ((Array.range (1 * z.size)).map _).toList.length = k
    simp [hz]
  have hon : ∀ v ∈ zs, v.oneCell' = true := by
    intro v hv2
    rw [hzs] at hv2
    have h2 : v ∈ ((Array.range (1 * z.size)).map fun i => z[i % z.size]!).toList := hv2
    simp only [Array.toList_map, List.mem_map] at h2
    obtain ⟨i, hi, rfl⟩ := h2
    have hi2 : i < 1 * z.size := by simpa using hi
    have hlt : i % z.size < z.size := Nat.mod_lt _ (by omega)
    rw [getElem!_pos z (i % z.size) hlt]
    exact hone _ (by simp)
  have hst := run_storeCells_cells (P := P) b o zs 0 w (by rw [hlen]; simpa using fun j hj => (ht j (by omega)).1) (by rw [hlen]; simpa using fun j hj => (ht j (by omega)).2) hon
  simp only [Nat.add_zero] at hst
  rw [hzs] at hst
  refine ⟨zs, hlen, ?_⟩
  rw [hzs]
  simp [Builtin.clear_, run_underlying hU, hv, hst]
section
variable {α : Type} {K : Kind α} {L : List α}
theorem flatG_len (h : ∀ x ∈ L, K.ok x) : (flatG K L).length = L.length * K.k := flatG_length K h
theorem flatG_take (h : ∀ x ∈ L, K.ok x) (i : Nat) : (flatG K L).take (i * K.k) = flatG K (L.take i) := by
  rcases Nat.le_total i L.length with hi | hi
  · have e : flatG K L = flatG K (L.take i) ++ flatG K (L.drop i) := by rw [← flatG_append, List.take_append_drop]
    have hl : (flatG K (L.take i)).length = i * K.k := by rw [flatG_length K (fun x hx => h x (List.mem_of_mem_take hx)), List.length_take, Nat.min_eq_left hi]
    rw [e, List.take_append_of_le_length (by omega), List.take_of_length_le (by omega)]
  · rw [List.take_of_length_le hi, List.take_of_length_le]
    rw [flatG_length K h]
    exact Nat.mul_le_mul_right _ hi
theorem flatG_drop (h : ∀ x ∈ L, K.ok x) (i : Nat) : (flatG K L).drop (i * K.k) = flatG K (L.drop i) := by
  rcases Nat.le_total i L.length with hi | hi
  · have e : flatG K L = flatG K (L.take i) ++ flatG K (L.drop i) := by rw [← flatG_append, List.take_append_drop]
    have hl : (flatG K (L.take i)).length = i * K.k := by rw [flatG_length K (fun x hx => h x (List.mem_of_mem_take hx)), List.length_take, Nat.min_eq_left hi]
    rw [e, ← hl, List.drop_left]
  · rw [List.drop_eq_nil_of_le hi, List.drop_eq_nil_of_le]
    · rfl
    · rw [flatG_length K h]
      exact Nat.mul_le_mul_right _ hi
theorem flatG_erase (h : ∀ x ∈ L, K.ok x) {i n : Nat} (hn : L.length = n) (hi : i < n) (zs : List Value) : (putL (putL (flatG K L) (i * K.k) (flatG K (L.drop (i + 1)))) ((n - 1) * K.k) zs).take ((n - 1) * K.k) = flatG K (L.eraseIdx i) := by
  rw [putL_take _ _ _ _ (Nat.le_refl _)]
  have hd : ∀ x ∈ L.drop (i + 1), K.ok x := fun x hx => h x (List.mem_of_mem_drop hx)
  have h1 : (flatG K L).length = n * K.k := by rw [flatG_length K h, hn]
  have h2 : (flatG K (L.drop (i + 1))).length = (n - (i + 1)) * K.k := by rw [flatG_length K hd, List.length_drop, hn]
  have hm : (n - 1) * K.k = i * K.k + (n - (i + 1)) * K.k := by rw [← Nat.add_mul]; congr 1; omega
  have hle : (n - 1) * K.k ≤ n * K.k := Nat.mul_le_mul_right _ (by omega)
  rw [List.eraseIdx_eq_take_drop_succ, flatG_append, ← flatG_take h]
  apply List.ext_getElem?
  intro j
  rw [List.getElem?_take, putL_get, h1, h2]
  have hl : ((flatG K L).take (i * K.k)).length = i * K.k := by rw [List.length_take, h1]; exact Nat.min_eq_left (Nat.mul_le_mul_right _ (by omega))
  by_cases hj : j < (n - 1) * K.k
  · rw [if_pos hj]
    by_cases hji : j < i * K.k
    · rw [if_neg (by omega), List.getElem?_append_left (by omega), List.getElem?_take, if_pos hji]
    · rw [if_pos ⟨by omega, by omega, by omega⟩, List.getElem?_append_right (by omega), hl]
  · rw [if_neg hj, List.getElem?_append_right (by omega), hl, List.getElem?_eq_none (by omega)]
theorem flatG_insert (h : ∀ x ∈ L, K.ok x) {X : α} (hX : K.ok X) {i n : Nat} (hn : L.length = n) (hi : i ≤ n) (ys : List Value) (hy : ys.length = K.k) :
    putL (putL (flatG K L ++ ys) ((i + 1) * K.k) (flatG K (L.drop i))) (i * K.k) (K.cells X) = flatG K (L.take i ++ X :: L.drop i) := by
  have hd : ∀ x ∈ L.drop i, K.ok x := fun x hx => h x (List.mem_of_mem_drop hx)
  have h1 : (flatG K L).length = n * K.k := by rw [flatG_length K h, hn]
  have h2 : (flatG K (L.drop i)).length = (n - i) * K.k := by rw [flatG_length K hd, List.length_drop, hn]
  have h3 : (K.cells X).length = K.k := K.len X hX
  have hm : n * K.k = i * K.k + (n - i) * K.k := by rw [← Nat.add_mul]; congr 1; omega
  have hs : (i + 1) * K.k = i * K.k + K.k := by rw [Nat.add_mul, Nat.one_mul]
  have hle : i * K.k ≤ n * K.k := Nat.mul_le_mul_right _ hi
  rw [flatG_append, ← flatG_take h, show flatG K (X :: L.drop i) = K.cells X ++ flatG K (L.drop i) from by simp [flatG]]
  have hl : ((flatG K L).take (i * K.k)).length = i * K.k := by rw [List.length_take, h1]; exact Nat.min_eq_left hle
  apply List.ext_getElem?
  intro j
  rw [putL_get, putL_length, putL_get, List.length_append, h1, h2, h3, hy, hs]
  by_cases a1 : j < i * K.k
  · rw [if_neg (by omega), if_neg (by omega), List.getElem?_append_left (by omega), List.getElem?_append_left (by omega), List.getElem?_take, if_pos a1]
  · by_cases a2 : j < i * K.k + K.k
    · rw [if_pos ⟨by omega, a2, by omega⟩, List.getElem?_append_right (by omega), hl, List.getElem?_append_left (by omega)]
    · have hR : ((flatG K L).take (i * K.k) ++ (K.cells X ++ flatG K (L.drop i)))[j]? = (flatG K (L.drop i))[j - i * K.k - K.k]? := by
        rw [List.getElem?_append_right (by omega), hl, List.getElem?_append_right (by omega), h3]
      rw [hR, if_neg (by omega)]
      by_cases a3 : j < n * K.k + K.k
      · rw [if_pos ⟨by omega, by omega, a3⟩]
        congr 1; omega
      · rw [if_neg (by omega), List.getElem?_eq_none (by rw [List.length_append, h1, hy]; omega), List.getElem?_eq_none (by omega)]
end
#print axioms flatG_insert
#print axioms flatG_erase
#print axioms run_clear_k
end Go.Proofs.YtejooogfnnidcaaDoor

namespace Go.Proofs.YtejooogfnnidcaaDoor
open Go.RowKit

theorem sizeNf : (Value.agg (rnL ([], zId)).toArray).cells.size = rnK.k := by kernel_rfl
theorem sizeEf : (Value.agg (enL default).toArray).cells.size = enK.k := by kernel_rfl
theorem size_le_alloc (w : World) (o : Obj) : w.heap.size ≤ (w.alloc o).heap.size := by simp

set_option maxRecDepth 100000 in
set_option maxHeartbeats 1000000 in
theorem cloneN_any (a : Option Addr) (n c : Nat) (L : List RName) (w : World) (h : AtG rnK w a n c L) (hn : n ≤ 1000000) :
    Calls Tryd.prog 51 #[.slice a n c] w fun e w' => ∃ a' c', e = .returned (.slice a' n c') ∧ OwnG rnK NEf w' w.heap.size (.slice a' n c') L ∧ Below w.heap.size w w' := by
  have HLN := Lib.hid h.1
  have q := fun W (a : Option Addr) n c n' c' => Lib.run_eql_slice_nil (P := Tryd.prog) W _ _ a n c n' c' Tryd.underlying32
  cases a with
  | none =>
    have h0 : n = 0 ∧ c = 0 := by
      rcases h.2.2.2.2 with h1 | ⟨b, o, h1, _⟩
      · exact h1
      · cases h1
    obtain ⟨rfl, rfl⟩ := h0
    have hL : L = [] := List.length_eq_zero_iff.1 h.1
    subst hL
    clear h
    go_enter Tryd.func51, Tryd.ntmps51
    go_wp2
    go_ret
    exact ⟨none, 0, rfl, OwnG.nil, Below.refl _ _⟩
  | some ad =>
    have HN := Lib.hid h
    have HB := Lib.hid ((Below.refl w.heap.size w).alloc (Nat.le_refl _) (.cells #[] NEf))
    have HO := Lib.hid (OwnG.lit (K := rnK) (E := NEf) (w := w) (L := []) rfl #[] rfl)
    have HS := Lib.hid (size_le_alloc w (.cells #[] NEf))
    have HH : Hid ((([] : List RName).length + n) * (48 + 1) ≤ 140737488355328) := Lib.hid (by simp; omega)
    have HR : Hid (n = ([] : List RName).length + n) := Lib.hid (by simp)
    clear h hn
    go_enter Tryd.func51, Tryd.ntmps51
    go_wp2_with ((with_reducible show wpList _ _ _ (⟨some 7, _, _, _, _, _⟩ :: _) _ _); go_must (refine appG rnK Tryd.underlying32 infoNf sizeNf rfl _ _ rfl w.heap.size _ [] rfl HO.out _ n c L rfl (HN.out.below HB.out) HH.out HS.out n HR.out ?_); intro a7 c7 W7 ho7 hg7; have HB7 := Lib.hid (HB.out.grown hg7 HB.out.size (fun k hk => by cases hk; exact Nat.le_refl _)); have HO7 := Lib.hid ho7; clear ho7 hg7)
    go_ret
    exact ⟨a7, c7, rfl, by have := HO7.out; rwa [List.nil_append] at this, HB7.out⟩

set_option maxRecDepth 100000 in
set_option maxHeartbeats 2000000 in
theorem deleteN_any (g n c i j base : Nat) (z : Int) (L : List RName) (w : World) (h : OwnG rnK NEf w base (.slice (some ⟨g, 0, none⟩) n c) L) (hi : i < n) (hj : j = i + 1) (hz : z = (j : Int)) (hn : n ≤ 1000000) :
    Calls Tryd.prog 75 #[.slice (some ⟨g, 0, none⟩) n c, .int .i64 i, .int .i64 z] w fun e w' => e = .returned (.slice (some ⟨g, 0, none⟩) (n - 1) c) ∧ OwnG rnK NEf w' base (.slice (some ⟨g, 0, none⟩) (n - 1) c) (L.eraseIdx i) ∧ w.grownBy w' (some g) := by
  subst hz
  have hln := h.len
  obtain ⟨hnc, hcm, hgl, hgb, _⟩ := own_cap (hln ▸ h.1 : w.ownsRow base NEf 33 (.slice (some ⟨g, 0, none⟩) n c) n (flatG rnK L))
  have hcM : c ≤ 9223372036854775807 := by unfold maxLen at hcm; omega
  have hown0 : w.ownsRow base NEf 33 (.slice (some ⟨g, 0, none⟩) n c) n (flatG rnK L) := hln ▸ h.1
  obtain ⟨news, hnews⟩ : ∃ news, news = flatG rnK (L.drop j) := ⟨_, rfl⟩
  have hdok : ∀ x ∈ L.drop j, (rnK).ok x := fun x hx => h.2 x (List.mem_of_mem_drop hx)
  have hnl : news.length = (n - j) * 33 := by rw [hnews, flatG_len hdok, List.length_drop, hln]; rfl
  have hfl : (flatG rnK L).length = n * 33 := by rw [flatG_len h.2, hln]; rfl
  have hdr : (flatG rnK L).drop (j * 33) = news := by rw [hnews]; exact flatG_drop h.2 j
  obtain ⟨A, hA, hsrc⟩ : ∃ A : Addr, (if c = j then some (⟨g, 0, none⟩ : Addr) else some ⟨g, j * 33, none⟩) = some A ∧ Hid (∀ t u, news[t]? = some u → w.drew.cell? (A.add t) = some u) := by
    by_cases hc : c = j
    · refine ⟨⟨g, 0, none⟩, by simp [hc], Lib.hid (fun t u hu => ?_)⟩
      have h0 : news.length = 0 := by rw [hnl, show n - j = 0 by omega, Nat.zero_mul]
      rw [List.length_eq_zero_iff.1 h0] at hu
      simp at hu
    · refine ⟨⟨g, j * 33, none⟩, by simp [hc], Lib.hid (fun t u hu => ?_)⟩
      rw [← hdr, List.getElem?_drop] at hu
      have hlt := (List.getElem?_eq_some_iff.1 hu).1
      have h2 := World.ownsRow.cellAt hown0 (j * 33 + t) (by rw [hfl] at hlt; exact hlt)
      rw [Addr.add_lit]
      exact h2.trans hu
  have s1 := Lib.hid hnl
  have s2 : Hid (∀ u ∈ news, u.oneCell' = true) := Lib.hid (by rw [hnews]; exact flatG_one rnK hdok)
  have s3 : Hid (∀ t, t < news.length → (w.drew.cell? ⟨g, 0 + i * 33 + t, none⟩).isSome = true ∧ w.drew.frozen? ⟨g, 0 + i * 33 + t, none⟩ = false) := Lib.hid (fun t ht => by
    rw [Nat.zero_add]
    refine own_there (w := w.drew) hown0 (i * 33 + t) ?_
    rw [hnl] at ht
    omega)
  obtain ⟨W1, hW1⟩ : ∃ W1, W1 = w.drew.setCells g (0 + i * 33) news := ⟨_, rfl⟩
  obtain ⟨ho1, hg1⟩ := own_setCells news (i * 33) (w := w.drew) hown0
  rw [Nat.zero_add] at hW1
  rw [← hW1] at ho1 hg1
  have HW1 : Hid (W1 = w.drew.setCells g (0 + i * 33) news) := Lib.hid (by rw [Nat.zero_add]; exact hW1)
  obtain ⟨i0, hi0, hz0, hz1, hz2⟩ := info_parts infoNf
  have HCL := Lib.hid (fun ty => run_clear_k (P := Tryd.prog) W1 32 NEf ty _ 33 Tryd.underlying32 (show (zeroValue NEf).run Tryd.prog W1 = .ok (.agg (rnL ([], zId)).toArray) W1 by kernel_rfl) (by kernel_rfl) (fun v hv => rnL_one ([], zId) v (by simpa using hv)) g ((n - 1) * 33) (c - (n - 1)) (fun j hj => own_there ho1 ((n - 1) * 33 + j) (by omega)))
  have HO1 := Lib.hid ho1
  have HG1 := Lib.hid hg1
  have HNE := Lib.hid hnews
  have HLE := Lib.hid hln
  have HOK := Lib.hid h.2
  have HGW : Hid (w.grownBy W1 (some g)) := Lib.hid ⟨hg1.os, hg1.tape, hg1.output, hg1.size, hg1.block⟩
  have hi0I : (0 : Int) ≤ (i : Int) := by omega
  have hiI : (i : Int) < (n : Int) := by omega
  have hnI : (n : Int) ≤ 1000000 := by omega
  have hncI : (n : Int) ≤ (c : Int) := by omega
  have hcI : (c : Int) ≤ 9223372036854775807 := by omega
  have hne1 : ¬ ((i : Int) = (j : Int)) := by omega
  have hij : i ≤ j := by omega
  have hijI : (i : Int) ≤ (j : Int) := by omega
  have hjI : (j : Int) ≤ (n : Int) := by omega
  have hj0 : (0 : Int) ≤ (j : Int) := by omega
  have hic : i ≤ c := by omega
  have hjc : j ≤ c := by omega
  have hjn : j ≤ n := by omega
  have hie : i + (n - j) = n - 1 := by omega
  have HIN := Lib.hid hi
  have HJ := Lib.hid hj
  clear hW1 hnews hdok hnl hfl hdr hown0 ho1 hg1 h hgl hgb hcm hln hj
  go_enter Tryd.func75, Tryd.ntmps75
  go_wp2
  go_region_law ((refine step_append_room rfl (.tmp 22) (.tmp 25) 32 rfl NEf i0 33 Tryd.underlying32 hi0 hz1 g 0 i c (by simp [Act.eval, Act.put]) A (n - j) (c - j) news (by simp [Act.eval, Act.put]) s1.out hsrc.out s2.out (by omega) s3.out ?_); rw [← HW1.out, hie])
  clear hA hsrc
  go_wp2
  obtain ⟨zs, hzl, hrun⟩ := HCL.out 0
  have hnn : n - (n - 1) = 1 := by have := HIN.out; omega
  rw [hnn, hrun]
  have HRN := Lib.hid hrun
  have HZL := Lib.hid hzl
  clear hrun hzl hnn
  go_wp2
  go_ret
  obtain ⟨h1, h2⟩ := own_setCells zs ((n - 1) * 33) HO1.out
  have h3 := own_less h1 (Nat.sub_le n 1)
  have h4 := flatG_erase HOK.out HLE.out HIN.out zs
  have hle : (L.eraseIdx i).length = n - 1 := by rw [List.length_eraseIdx, if_pos (by rw [HLE.out]; exact HIN.out), HLE.out]
  rw [HNE.out, show j = i + 1 from HJ.out, show flatG rnK (L.drop (i + 1)) = flatG rnK (L.drop (i + 1)) from rfl] at h3
  refine ⟨rfl, ⟨?_, fun x hx => HOK.out x (List.mem_of_mem_eraseIdx hx)⟩, HGW.out.trans h2⟩
  rw [hle, ← h4]
  exact h3

set_option maxRecDepth 100000 in
set_option maxHeartbeats 1000000 in
theorem cloneE_any (a : Option Addr) (n c : Nat) (L : List EntV) (w : World) (h : AtG enK w a n c L) (hn : n ≤ 1000000) :
    Calls Tryd.prog 52 #[.slice a n c] w fun e w' => ∃ a' c', e = .returned (.slice a' n c') ∧ OwnG enK EEf w' w.heap.size (.slice a' n c') L ∧ Below w.heap.size w w' := by
  have HLN := Lib.hid h.1
  have q := fun W (a : Option Addr) n c n' c' => Lib.run_eql_slice_nil (P := Tryd.prog) W _ _ a n c n' c' Tryd.underlying25
  cases a with
  | none =>
    have h0 : n = 0 ∧ c = 0 := by
      rcases h.2.2.2.2 with h1 | ⟨b, o, h1, _⟩
      · exact h1
      · cases h1
    obtain ⟨rfl, rfl⟩ := h0
    have hL : L = [] := List.length_eq_zero_iff.1 h.1
    subst hL
    clear h
    go_enter Tryd.func52, Tryd.ntmps52
    go_wp2
    go_ret
    exact ⟨none, 0, rfl, OwnG.nil, Below.refl _ _⟩
  | some ad =>
    have HN := Lib.hid h
    have HB := Lib.hid ((Below.refl w.heap.size w).alloc (Nat.le_refl _) (.cells #[] EEf))
    have HO := Lib.hid (OwnG.lit (K := enK) (E := EEf) (w := w) (L := []) rfl #[] rfl)
    have HS := Lib.hid (size_le_alloc w (.cells #[] EEf))
    have HH : Hid ((([] : List EntV).length + n) * (104 + 1) ≤ 140737488355328) := Lib.hid (by simp; omega)
    have HR : Hid (n = ([] : List EntV).length + n) := Lib.hid (by simp)
    clear h hn
    go_enter Tryd.func52, Tryd.ntmps52
    go_wp2_with ((with_reducible show wpList _ _ _ (⟨some 7, _, _, _, _, _⟩ :: _) _ _); go_must (refine appG enK Tryd.underlying25 infoEf sizeEf rfl _ _ rfl w.heap.size _ [] rfl HO.out _ n c L rfl (HN.out.below HB.out) HH.out HS.out n HR.out ?_); intro a7 c7 W7 ho7 hg7; have HB7 := Lib.hid (HB.out.grown hg7 HB.out.size (fun k hk => by cases hk; exact Nat.le_refl _)); have HO7 := Lib.hid ho7; clear ho7 hg7)
    go_ret
    exact ⟨a7, c7, rfl, by have := HO7.out; rwa [List.nil_append] at this, HB7.out⟩

set_option maxRecDepth 100000 in
set_option maxHeartbeats 2000000 in
theorem deleteE_any (g n c i j base : Nat) (z : Int) (L : List EntV) (w : World) (h : OwnG enK EEf w base (.slice (some ⟨g, 0, none⟩) n c) L) (hi : i < n) (hj : j = i + 1) (hz : z = (j : Int)) (hn : n ≤ 1000000) :
    Calls Tryd.prog 56 #[.slice (some ⟨g, 0, none⟩) n c, .int .i64 i, .int .i64 z] w fun e w' => e = .returned (.slice (some ⟨g, 0, none⟩) (n - 1) c) ∧ OwnG enK EEf w' base (.slice (some ⟨g, 0, none⟩) (n - 1) c) (L.eraseIdx i) ∧ w.grownBy w' (some g) := by
  subst hz
  have hln := h.len
  obtain ⟨hnc, hcm, hgl, hgb, _⟩ := own_cap (hln ▸ h.1 : w.ownsRow base EEf 67 (.slice (some ⟨g, 0, none⟩) n c) n (flatG enK L))
  have hcM : c ≤ 9223372036854775807 := by unfold maxLen at hcm; omega
  have hown0 : w.ownsRow base EEf 67 (.slice (some ⟨g, 0, none⟩) n c) n (flatG enK L) := hln ▸ h.1
  obtain ⟨news, hnews⟩ : ∃ news, news = flatG enK (L.drop j) := ⟨_, rfl⟩
  have hdok : ∀ x ∈ L.drop j, (enK).ok x := fun x hx => h.2 x (List.mem_of_mem_drop hx)
  have hnl : news.length = (n - j) * 67 := by rw [hnews, flatG_len hdok, List.length_drop, hln]; rfl
  have hfl : (flatG enK L).length = n * 67 := by rw [flatG_len h.2, hln]; rfl
  have hdr : (flatG enK L).drop (j * 67) = news := by rw [hnews]; exact flatG_drop h.2 j
  obtain ⟨A, hA, hsrc⟩ : ∃ A : Addr, (if c = j then some (⟨g, 0, none⟩ : Addr) else some ⟨g, j * 67, none⟩) = some A ∧ Hid (∀ t u, news[t]? = some u → w.drew.cell? (A.add t) = some u) := by
    by_cases hc : c = j
    · refine ⟨⟨g, 0, none⟩, by simp [hc], Lib.hid (fun t u hu => ?_)⟩
      have h0 : news.length = 0 := by rw [hnl, show n - j = 0 by omega, Nat.zero_mul]
      rw [List.length_eq_zero_iff.1 h0] at hu
      simp at hu
    · refine ⟨⟨g, j * 67, none⟩, by simp [hc], Lib.hid (fun t u hu => ?_)⟩
      rw [← hdr, List.getElem?_drop] at hu
      have hlt := (List.getElem?_eq_some_iff.1 hu).1
      have h2 := World.ownsRow.cellAt hown0 (j * 67 + t) (by rw [hfl] at hlt; exact hlt)
      rw [Addr.add_lit]
      exact h2.trans hu
  have s1 := Lib.hid hnl
  have s2 : Hid (∀ u ∈ news, u.oneCell' = true) := Lib.hid (by rw [hnews]; exact flatG_one enK hdok)
  have s3 : Hid (∀ t, t < news.length → (w.drew.cell? ⟨g, 0 + i * 67 + t, none⟩).isSome = true ∧ w.drew.frozen? ⟨g, 0 + i * 67 + t, none⟩ = false) := Lib.hid (fun t ht => by
    rw [Nat.zero_add]
    refine own_there (w := w.drew) hown0 (i * 67 + t) ?_
    rw [hnl] at ht
    omega)
  obtain ⟨W1, hW1⟩ : ∃ W1, W1 = w.drew.setCells g (0 + i * 67) news := ⟨_, rfl⟩
  obtain ⟨ho1, hg1⟩ := own_setCells news (i * 67) (w := w.drew) hown0
  rw [Nat.zero_add] at hW1
  rw [← hW1] at ho1 hg1
  have HW1 : Hid (W1 = w.drew.setCells g (0 + i * 67) news) := Lib.hid (by rw [Nat.zero_add]; exact hW1)
  obtain ⟨i0, hi0, hz0, hz1, hz2⟩ := info_parts infoEf
  have HCL := Lib.hid (fun ty => run_clear_k (P := Tryd.prog) W1 25 EEf ty _ 67 Tryd.underlying25 (show (zeroValue EEf).run Tryd.prog W1 = .ok (.agg (enL default).toArray) W1 by kernel_rfl) (by kernel_rfl) (fun v hv => enL_one default v (by simpa using hv)) g ((n - 1) * 67) (c - (n - 1)) (fun j hj => own_there ho1 ((n - 1) * 67 + j) (by omega)))
  have HO1 := Lib.hid ho1
  have HG1 := Lib.hid hg1
  have HNE := Lib.hid hnews
  have HLE := Lib.hid hln
  have HOK := Lib.hid h.2
  have HGW : Hid (w.grownBy W1 (some g)) := Lib.hid ⟨hg1.os, hg1.tape, hg1.output, hg1.size, hg1.block⟩
  have hi0I : (0 : Int) ≤ (i : Int) := by omega
  have hiI : (i : Int) < (n : Int) := by omega
  have hnI : (n : Int) ≤ 1000000 := by omega
  have hncI : (n : Int) ≤ (c : Int) := by omega
  have hcI : (c : Int) ≤ 9223372036854775807 := by omega
  have hne1 : ¬ ((i : Int) = (j : Int)) := by omega
  have hij : i ≤ j := by omega
  have hijI : (i : Int) ≤ (j : Int) := by omega
  have hjI : (j : Int) ≤ (n : Int) := by omega
  have hj0 : (0 : Int) ≤ (j : Int) := by omega
  have hic : i ≤ c := by omega
  have hjc : j ≤ c := by omega
  have hjn : j ≤ n := by omega
  have hie : i + (n - j) = n - 1 := by omega
  have HIN := Lib.hid hi
  have HJ := Lib.hid hj
  clear hW1 hnews hdok hnl hfl hdr hown0 ho1 hg1 h hgl hgb hcm hln hj
  go_enter Tryd.func56, Tryd.ntmps56
  go_wp2
  go_region_law ((refine step_append_room rfl (.tmp 22) (.tmp 25) 25 rfl EEf i0 67 Tryd.underlying25 hi0 hz1 g 0 i c (by simp [Act.eval, Act.put]) A (n - j) (c - j) news (by simp [Act.eval, Act.put]) s1.out hsrc.out s2.out (by omega) s3.out ?_); rw [← HW1.out, hie])
  clear hA hsrc
  go_wp2
  obtain ⟨zs, hzl, hrun⟩ := HCL.out 0
  have hnn : n - (n - 1) = 1 := by have := HIN.out; omega
  rw [hnn, hrun]
  have HRN := Lib.hid hrun
  have HZL := Lib.hid hzl
  clear hrun hzl hnn
  go_wp2
  go_ret
  obtain ⟨h1, h2⟩ := own_setCells zs ((n - 1) * 67) HO1.out
  have h3 := own_less h1 (Nat.sub_le n 1)
  have h4 := flatG_erase HOK.out HLE.out HIN.out zs
  have hle : (L.eraseIdx i).length = n - 1 := by rw [List.length_eraseIdx, if_pos (by rw [HLE.out]; exact HIN.out), HLE.out]
  rw [HNE.out, show j = i + 1 from HJ.out, show flatG enK (L.drop (i + 1)) = flatG enK (L.drop (i + 1)) from rfl] at h3
  refine ⟨rfl, ⟨?_, fun x hx => HOK.out x (List.mem_of_mem_eraseIdx hx)⟩, HGW.out.trans h2⟩
  rw [hle, ← h4]
  exact h3
#print axioms deleteN_any
end Go.Proofs.YtejooogfnnidcaaDoor

namespace Go.Proofs.YtejooogfnnidcaaDoor
open Go.RowKit

theorem wl_copy_run {P : Program} (w : World) {ops : Array Oper} {rest : List Oper} {o : Oper} {a : Act} {Q : Exit → Act → World → Prop} (hgd : o.guard = none) (d s : Operand) (t t' : TypeId)
    (ho : o.op = .call { callee := .builtin .copy, args := #[d, s], argTypes := #[t, t'] }) (v u : Value) (hd : a.eval d = v) (hs : a.eval s = u) {v' : Value} {w' : World}
    (hr : (Builtin.copy_ #[t, t'] o.type #[v, u]).run P w = .ok v' w') (h : wpList P ops Q rest (a.put o.dst v') w') : wpList P ops Q (o :: rest) a w := by
  refine wpList_ok hgd (v := v') ?_ h
  unfold execOp
  simp only [ho, resolve, invoke, builtin, Sem.run_bind, Sem.run_pure, Result.andThen_ok, List.map_toArray, List.map_cons, List.map_nil, hd, hs, hr]
theorem wp_copy_run {P : Program} {w : World} {o : Oper} {a : Act} {K : Act → World → Prop} {Q : Exit → Act → World → Prop} (d s : Operand) (t t' : TypeId)
    (ho : o.op = .call { callee := .builtin .copy, args := #[d, s], argTypes := #[t, t'] }) (v u : Value) (hd : a.eval d = v) (hs : a.eval s = u) {v' : Value} {w' : World}
    (hr : (Builtin.copy_ #[t, t'] o.type #[v, u]).run P w = .ok v' w') (h : K (a.put o.dst v') w') : o.wp P a w K Q := by
  unfold Oper.wp execOp
  simp only [ho, resolve, invoke, builtin, Sem.run_bind, Sem.run_pure, Result.andThen_ok, List.map_toArray, List.map_cons, List.map_nil, hd, hs, hr]
  exact h
section
variable {α : Type} {K : Kind α} {L : List α}
theorem flatG_grow (h : ∀ x ∈ L, K.ok x) {X : α} (hX : K.ok X) {i n : Nat} (hn : L.length = n) (hi : i ≤ n) (xs : List Value) (hx : xs.length = (n + 1) * K.k) (ht : xs.take (i * K.k) = flatG K (L.take i)) :
    putL (putL xs (i * K.k) (K.cells X)) ((i + 1) * K.k) (flatG K (L.drop i)) = flatG K (L.take i ++ X :: L.drop i) := by
  have hd : ∀ x ∈ L.drop i, K.ok x := fun x hx => h x (List.mem_of_mem_drop hx)
  have h2 : (flatG K (L.drop i)).length = (n - i) * K.k := by rw [flatG_length K hd, List.length_drop, hn]
  have h3 : (K.cells X).length = K.k := K.len X hX
  have hm : (n + 1) * K.k = i * K.k + K.k + (n - i) * K.k := by rw [Nat.add_mul, Nat.one_mul, show n * K.k = i * K.k + (n - i) * K.k from by rw [← Nat.add_mul]; congr 1; omega]; omega
  have hs : (i + 1) * K.k = i * K.k + K.k := by rw [Nat.add_mul, Nat.one_mul]
  rw [flatG_append, ← ht, show flatG K (X :: L.drop i) = K.cells X ++ flatG K (L.drop i) from by simp [flatG]]
  have hl : (xs.take (i * K.k)).length = i * K.k := by rw [List.length_take, hx]; exact Nat.min_eq_left (by omega)
  apply List.ext_getElem?
  intro j
  rw [putL_get, putL_length, putL_get, hx, h2, h3, hs]
  by_cases a1 : j < i * K.k
  · rw [if_neg (by omega), if_neg (by omega), List.getElem?_append_left (by omega), List.getElem?_take, if_pos a1]
  · by_cases a2 : j < i * K.k + K.k
    · rw [if_neg (by omega), if_pos ⟨by omega, a2, by omega⟩, List.getElem?_append_right (by omega), hl, List.getElem?_append_left (by omega)]
    · have hR : (xs.take (i * K.k) ++ (K.cells X ++ flatG K (L.drop i)))[j]? = (flatG K (L.drop i))[j - i * K.k - K.k]? := by
        rw [List.getElem?_append_right (by omega), hl, List.getElem?_append_right (by omega), h3]
      rw [hR]
      by_cases a3 : j < (n + 1) * K.k
      · rw [if_pos ⟨by omega, by omega, a3⟩]
        congr 1; omega
      · rw [if_neg (by omega), if_neg (by omega), List.getElem?_eq_none (by omega), List.getElem?_eq_none (by omega)]
end
/-- What an insertion hands back. -/
def InsIs (w : World) (base : Nat) (v : Value) (L : List RName) (n : Nat) (e : Ending) (w' : World) : Prop := ∃ a' c', e = .returned (.slice a' n c') ∧ OwnG rnK NEf w' base (.slice a' n c') L ∧ w.grownBy w' v.ownBlock ∧ Told w v (.slice a' n c')
abbrev FIn : Nat := 76

set_option maxRecDepth 100000 in
set_option maxHeartbeats 1000000 in
/-- At the end. -/
theorem insEnd_any (a : Option Addr) (n c base vb : Nat) (L : List RName) (X : RName) (w : World) (h : OwnG rnK NEf w base (.slice a n c) L) (hX : X.2.length = 32) (hv : RowAt w vb NEf (rnL X)) (hb : base ≤ w.heap.size) (hn : n ≤ 1000000) :
    Calls Tryd.prog FIn #[.slice a n c, .int .i64 n, .slice (some ⟨vb, 0, none⟩) 1 1] w (InsIs w base (.slice a n c) (L ++ [X]) (n + 1)) := by
  have hln := h.len
  have HO := Lib.hid h
  have HBS := Lib.hid hb
  have HV : Hid (AtG rnK w (some ⟨vb, 0, none⟩) 1 1 [X]) := Lib.hid ⟨rfl, Nat.le_refl _, by omega, fun y hy => by simp at hy; rw [hy]; exact hX, .inr ⟨_, _, rfl, fun j hj i v hiv => by
    obtain rfl : j = 0 := by omega
    rw [Nat.zero_mul, Nat.zero_add]
    exact hv.cell i hiv⟩⟩
  have HH : Hid ((L.length + 1) * (48 + 1) ≤ 140737488355328) := Lib.hid (by rw [hln]; omega)
  have HR : Hid (n + 1 = L.length + 1) := Lib.hid (by rw [hln])
  have hnc : n ≤ c := h.atG.2.1
  have hcM : c ≤ 9223372036854775807 := h.atG.2.2.1
  have hncI : (n : Int) ≤ (c : Int) := by omega
  have hn0 : (0 : Int) ≤ (n : Int) := by omega
  clear h hv hb hn hln
  by_cases hcn : c = n
  · go_enter Tryd.func76, Tryd.ntmps76
    go_wp2_with ((with_reducible show wpList _ _ _ (⟨some 25, _, _, _, _, _⟩ :: _) _ _); go_must (refine appG_told rnK Tryd.underlying32 infoNf sizeNf rfl _ _ rfl base _ L rfl HO.out _ 1 1 [X] rfl HV.out HH.out HBS.out (n + 1) HR.out ?_); intro a7 c7 W7 ho7 hg7 ht7; have HO7 := Lib.hid ho7; have HG7 : Hid (w.grownBy W7 (Value.slice a n c).ownBlock) := Lib.hid hg7; have HT7 : Hid (Told w (Value.slice a n c) (.slice a7 (n + 1) c7)) := Lib.hid ht7; clear ho7 hg7 ht7)
    go_ret
    exact ⟨a7, c7, rfl, HO7.out, HG7.out, HT7.out⟩
  · have hcn2 : (c = n) = False := eq_false hcn
    go_enter Tryd.func76, Tryd.ntmps76
    go_wp2_with ((with_reducible show wpList _ _ _ (⟨some 25, _, _, _, _, _⟩ :: _) _ _); go_must (refine appG_told rnK Tryd.underlying32 infoNf sizeNf rfl _ _ rfl base _ L rfl HO.out _ 1 1 [X] rfl HV.out HH.out HBS.out (n + 1) HR.out ?_); intro a7 c7 W7 ho7 hg7 ht7; have HO7 := Lib.hid ho7; have HG7 : Hid (w.grownBy W7 (Value.slice a n c).ownBlock) := Lib.hid hg7; have HT7 : Hid (Told w (Value.slice a n c) (.slice a7 (n + 1) c7)) := Lib.hid ht7; clear ho7 hg7 ht7)
    go_ret
    exact ⟨a7, c7, rfl, HO7.out, HG7.out, HT7.out⟩

set_option maxRecDepth 100000 in
set_option maxHeartbeats 2000000 in
/-- Within, where there is room. -/
theorem insRoom_any (g n c i base vb : Nat) (L : List RName) (X : RName) (w : World) (h : OwnG rnK NEf w base (.slice (some ⟨g, 0, none⟩) n c) L) (hX : X.2.length = 32) (hv : RowAt w vb NEf (rnL X)) (hvb : vb ≠ g) (hi : i < n) (hroom : n + 1 ≤ c) (hn : n ≤ 1000000) :
    Calls Tryd.prog FIn #[.slice (some ⟨g, 0, none⟩) n c, .int .i64 i, .slice (some ⟨vb, 0, none⟩) 1 1] w (InsIs w base (.slice (some ⟨g, 0, none⟩) n c) (L.take i ++ X :: L.drop i) (n + 1)) := by
  have hln := h.len
  have hown0 : w.ownsRow base NEf 33 (.slice (some ⟨g, 0, none⟩) n c) n (flatG rnK L) := hln ▸ h.1
  obtain ⟨hnc, hcm, hgl, hgb, cur, hcur, hcsz⟩ := own_cap hown0
  have hcM : c ≤ 9223372036854775807 := by unfold maxLen at hcm; omega
  obtain ⟨ys, hown1, hys⟩ := own_more hown0 (Nat.le_succ n) hroom
  have hfl : (flatG rnK L).length = n * 33 := by rw [flatG_len h.2, hln]; rfl
  obtain ⟨news, hnews⟩ : ∃ news, news = flatG rnK (L.drop i) := ⟨_, rfl⟩
  have hdok : ∀ x ∈ L.drop i, rnK.ok x := fun x hx => h.2 x (List.mem_of_mem_drop hx)
  have hnl : news.length = (n - i) * 33 := by rw [hnews, flatG_len hdok, List.length_drop, hln]; rfl
  have hdr : (flatG rnK L).drop (i * 33) = news := by rw [hnews]; exact flatG_drop h.2 i
  have hsz : (Tryd.prog.info? NEf).map (·.size) = some 33 := by kernel_rfl
  obtain ⟨W1, hW1⟩ : ∃ W1, W1 = w.drew.setCells g ((i + 1) * 33) news := ⟨_, rfl⟩
  obtain ⟨ho1, hg1⟩ := own_setCells news ((i + 1) * 33) (w := w.drew) hown1
  rw [← hW1] at ho1 hg1
  have hcp1 : ∀ ty dc sc, (Builtin.copy_ #[32, 32] ty #[.slice (some ⟨g, (i + 1) * 33, none⟩) (n - i) dc, .slice (some ⟨g, i * 33, none⟩) (n + 1 - i) sc]).run Tryd.prog w.drew = .ok (goInt ((n - i : Nat) : Int)) W1 := fun ty dc sc => by
    rw [hW1]
    exact run_copy_k w.drew _ _ ty NEf 33 g ((i + 1) * 33) (n - i) dc ⟨g, i * 33, none⟩ (n + 1 - i) sc (n - i) news Tryd.underlying32 hsz (by simp only [Nat.min_def]; split <;> omega) hnl
      (fun j v hj => by
        rw [Addr.add_lit]
        rw [← hdr, List.getElem?_drop] at hj
        have hlt := (List.getElem?_eq_some_iff.1 hj).1
        exact (World.ownsRow.cellAt hown0 (i * 33 + j) (by rw [hfl] at hlt; exact hlt)).trans hj)
      (fun j hj => own_there (w := w.drew) hown1 _ (by rw [hnl] at hj; omega)) (by rw [hnews]; exact flatG_one rnK hdok)
  obtain ⟨ho2, hg2⟩ := own_setCells (rnL X) (i * 33) ho1
  have hcp2 : ∀ ty dc, (Builtin.copy_ #[32, 32] ty #[.slice (some ⟨g, i * 33, none⟩) (n + 1 - i) dc, .slice (some ⟨vb, 0, none⟩) 1 1]).run Tryd.prog W1 = .ok (goInt 1) (W1.setCells g (i * 33) (rnL X)) := fun ty dc => by
    have hv1 : RowAt W1 vb NEf (rnL X) := by
      unfold RowAt
      rw [hg1.block vb (by show vb < w.heap.size; exact hv.lt) (fun e => hvb (Option.some.inj e))]
      exact hv
    exact run_copy_k W1 _ _ ty NEf 33 g (i * 33) (n + 1 - i) dc ⟨vb, 0, none⟩ 1 1 1 (rnL X) Tryd.underlying32 hsz (by simp only [Nat.min_def]; split <;> omega) (rnL_len hX)
      (fun j v hj => by
        rw [Addr.add_lit, Nat.zero_add]
        exact hv1.cell j hj)
      (fun j hj => own_there ho1 _ (by rw [rnL_len hX] at hj; omega)) (rnL_one X)
  have hov : ∀ lb cb, (callFunc 81 #[.slice (some ⟨vb, 0, none⟩) 1 1, .slice (some ⟨g, (i + 1) * 33, none⟩) lb cb]).run Tryd.prog w = .ok (.value (.bool false)) w := fun lb cb => by
    rw [run_callFunc_extern Tryd.func81 (by kernel_rfl) (by kernel_rfl) (by kernel_rfl) (e := Extern.SlicesOverlaps.overlaps #[32, 32] #[4]) (by kernel_rfl),
      Lib.run_overlaps_apart w 32 4 NEf Tryd.underlying32 33 (fun w => by kernel_rfl) ⟨vb, 0, none⟩ ⟨g, (i + 1) * 33, none⟩ 1 1 lb cb hvb NEf NEf 33 (c * 33) (by unfold RowAt at hv; simp [World.shape?, hv, rnL_len hX]) (by simp [World.shape?, hcur, hcsz]) (by omega) (hv.free 0) (hv.free 33)]
    rfl
  have HFIN := Lib.hid (flatG_insert h.2 (show rnK.ok X from hX) hln (Nat.le_of_lt hi) ys (by rw [hys]; show (n + 1 - n) * 33 = 33; rw [show n + 1 - n = 1 by omega]))
  have HO2 := Lib.hid ho2
  have HG2 : Hid (w.grownBy (W1.setCells g (i * 33) (rnL X)) (some g)) := Lib.hid ((show w.grownBy W1 (some g) from ⟨hg1.os, hg1.tape, hg1.output, hg1.size, hg1.block⟩).trans hg2)
  have HNE := Lib.hid hnews
  have HLN := Lib.hid hln
  have HOK := Lib.hid h.2
  have HXX := Lib.hid hX
  have HIN := Lib.hid hi
  have hi0 : (0 : Int) ≤ (i : Int) := by omega
  have hiI : (i : Int) < (n : Int) := by omega
  have hiL : (i : Int) ≤ (n : Int) := by omega
  have hnI : (n : Int) ≤ 1000000 := by omega
  have hncI : (n : Int) ≤ (c : Int) := by omega
  have hrI : (n : Int) + 1 ≤ (c : Int) := by omega
  have hcI : (c : Int) ≤ 9223372036854775807 := by omega
  have hne : ¬ ((i : Int) = (n : Int)) := by omega
  have hnr : ¬ ((c : Int) < (n : Int) + 1) := by omega
  have hwn : IntKind.i64.wrap ((n : Int) + 1) = (n : Int) + 1 := IntWalk.i64_in _ (by omega)
  have hwi : IntKind.i64.wrap ((i : Int) + 1) = (i : Int) + 1 := IntWalk.i64_in _ (by omega)
  have htn : ((i : Int) + 1).toNat = i + 1 := by omega
  have htn2 : ((n : Int) + 1).toNat = n + 1 := by omega
  have hi1 : (0 : Int) ≤ (i : Int) + 1 := by omega
  have hi2 : (i : Int) + 1 ≤ (n : Int) + 1 := by omega
  have hi3 : (i : Int) ≤ (n : Int) + 1 := by omega
  have hn1 : (0 : Int) ≤ (n : Int) + 1 := by omega
  have hb2 : ¬ (c = i + 1) := by omega
  have hb4 : ¬ (c = i) := by omega
  clear hW1 hnews hdok hnl hfl hdr hown0 hown1 ho1 ho2 hg1 hg2 h hgl hgb hcm hln hys hcur hcsz hv hvb hi hsz hroom hX
  go_enter Tryd.func76, Tryd.ntmps76
  go_wp2_with (simp only [hov])
  go_region_law ((refine wp_copy_run _ _ 32 32 rfl _ _ (by simp [Act.eval, Act.put]) (by simp [Act.eval, Act.put]) (hcp1 _ _ _) ?_))
  go_wp2_with ((with_reducible show wpList _ _ _ (⟨some 82, _, _, _, _, _⟩ :: _) _ _); go_must (refine wl_copy_run _ rfl _ _ 32 32 rfl _ _ rfl rfl (hcp2 _ _) ?_))
  go_ret
  have hle : (L.take i ++ X :: L.drop i).length = n + 1 := by
    rw [List.length_append, List.length_cons, List.length_take, List.length_drop, HLN.out]
    have := HIN.out
    omega
  refine ⟨some ⟨g, 0, none⟩, c, rfl, ⟨?_, fun x hx => ?_⟩, HG2.out, .inl rfl⟩
  · rw [hle, ← HFIN.out]
    have := HO2.out
    rw [HNE.out] at this
    exact this
  · rcases List.mem_append.1 hx with hx | hx
    · exact HOK.out x (List.mem_of_mem_take hx)
    · rcases List.mem_cons.1 hx with rfl | hx
      · exact HXX.out
      · exact HOK.out x (List.mem_of_mem_drop hx)

set_option maxRecDepth 100000 in
set_option maxHeartbeats 2000000 in
/-- Within, where there is no room. -/
theorem insGrow_any (g n c i base vb : Nat) (L : List RName) (X : RName) (w : World) (h : OwnG rnK NEf w base (.slice (some ⟨g, 0, none⟩) n c) L) (hX : X.2.length = 32) (hv : RowAt w vb NEf (rnL X)) (hi : i < n) (hroom : c < n + 1) (hn : n ≤ 1000000) (hb : base ≤ w.heap.size) :
    Calls Tryd.prog FIn #[.slice (some ⟨g, 0, none⟩) n c, .int .i64 i, .slice (some ⟨vb, 0, none⟩) 1 1] w (InsIs w base (.slice (some ⟨g, 0, none⟩) n c) (L.take i ++ X :: L.drop i) (n + 1)) := by
  have hln := h.len
  have hown0 : w.ownsRow base NEf 33 (.slice (some ⟨g, 0, none⟩) n c) n (flatG rnK L) := hln ▸ h.1
  obtain ⟨hnc, hcm, hgl, hgb, cur, hcur, hcsz⟩ := own_cap hown0
  have hcM : c ≤ 9223372036854775807 := by unfold maxLen at hcm; omega
  have hfl : (flatG rnK L).length = n * 33 := by rw [flatG_len h.2, hln]; rfl
  obtain ⟨news, hnews⟩ : ∃ news, news = flatG rnK (L.drop i) := ⟨_, rfl⟩
  have hdok : ∀ x ∈ L.drop i, rnK.ok x := fun x hx => h.2 x (List.mem_of_mem_drop hx)
  have hnl : news.length = (n - i) * 33 := by rw [hnews, flatG_len hdok, List.length_drop, hln]; rfl
  have hdr : (flatG rnK L).drop (i * 33) = news := by rw [hnews]; exact flatG_drop h.2 i
  have hsz : (Tryd.prog.info? NEf).map (·.size) = some 33 := by kernel_rfl
  obtain ⟨i0, hi0, hz0, hz1, hz2⟩ := info_parts infoNf
  have hol : ((flatG rnK L).take (i * 33)).length = i * 33 := by rw [List.length_take, hfl]; exact Nat.min_eq_left (by omega)
  have hold : (Builtin.firstCells i0.size i (.slice (some ⟨g, 0, none⟩) i c)).run Tryd.prog w.drew = .ok ((flatG rnK L).take (i * 33)).toArray w.drew := by
    rw [hz1]
    exact run_firstCells_some w.drew 33 i ⟨g, 0, none⟩ i c _ hol (fun j v hj => by
      rw [Addr.add_lit, Nat.zero_add]
      rw [List.getElem?_take] at hj
      split at hj
      · exact (World.ownsRow.cellAt hown0 j (by omega)).trans hj
      · cases hj)
  obtain ⟨G, hG⟩ : ∃ G, G = grownCap w (n + 1) c NEf := ⟨_, rfl⟩
  obtain ⟨ROW, hROW⟩ : ∃ ROW : Array Value, ROW = ((flatG rnK L).take (i * 33)).toArray ++ Builtin.zeroCells (Value.agg (rnL ([], zId)).toArray).cells (n + 1 - i) ++ Builtin.zeroCells (Value.agg (rnL ([], zId)).toArray).cells (G - (n + 1)) := ⟨_, rfl⟩
  have hGn : n + 1 ≤ G := by rw [hG]; exact grownCap_ge w _ _ _
  have hGm : G ≤ maxLen := by rw [hG]; exact grownCap_le_maxLen w (n + 1) c NEf (by unfold maxLen; omega)
  have hzl : ∀ m, (Builtin.zeroCells (Value.agg (rnL ([], zId)).toArray).cells m).size = m * 33 := fun m => by
    show ((Array.range (m * _)).map _).size = _
    rw [Array.size_map, Array.size_range]
    rfl
  have hRl : ROW.size = G * 33 := by
    rw [hROW, Array.size_append, Array.size_append, hzl, hzl, List.size_toArray, hol]
    omega
  have hrz : ∀ ty, (Builtin.append_ #[32, 3] ty #[.slice (some ⟨g, 0, none⟩) i c, .int .i64 ((n : Int) + 1 - (i : Int))]).run Tryd.prog w = .ok (.slice (some ⟨w.heap.size, 0, none⟩) (n + 1) G) (w.drew.alloc (.cells ROW NEf)) := fun ty => by
    have hik : i + (n + 1 - i) = n + 1 := by omega
    have hkk : (n : Int) + 1 - (i : Int) = ((n + 1 - i : Nat) : Int) := by omega
    have hh := Lib.run_append_grow_zeros w 32 3 ty NEf i0 _ .i64 .i64 Tryd.underlying32 Tryd.underlying3 hi0 hz0 (some ⟨g, 0, none⟩) i c ((flatG rnK L).take (i * 33)) hold (n + 1 - i) (by omega) (by omega) (by omega) (by omega) (by rw [hz2]; omega) (by rw [hz2, hik]; exact growslice_fits hroom (by omega))
    rw [hik, ← hG, ← hROW] at hh
    rw [hkk]
    exact hh
  obtain ⟨W1, hW1⟩ : ∃ W1, W1 = w.drew.alloc (.cells ROW NEf) := ⟨_, rfl⟩
  have ho0 := own_less (World.ownsRow_lit (base := base) (e := NEf) (size := 33) w.drew ROW G hb hGm hRl) hGn
  have hxs : (ROW.toList.take ((n + 1) * 33)).length = (n + 1) * 33 := ho0.1
  have hxt : (ROW.toList.take ((n + 1) * 33)).take (i * 33) = flatG rnK (L.take i) := by
    rw [List.take_take, Nat.min_eq_left (by omega), hROW, Array.toList_append, Array.toList_append, List.append_assoc, List.take_append_of_le_length (by rw [List.toList_toArray, hol]; exact Nat.le_refl _), List.toList_toArray, List.take_of_length_le (by omega)]
    exact flatG_take h.2 i
  obtain ⟨xs, hxsE⟩ : ∃ xs, xs = ROW.toList.take ((n + 1) * 33) := ⟨_, rfl⟩
  rw [← hxsE] at ho0 hxs hxt
  have ho0' : W1.ownsRow base NEf 33 (.slice (some ⟨w.heap.size, 0, none⟩) (n + 1) G) (n + 1) xs := by rw [hW1]; exact ho0
  have hga := World.grownBy_alloc w.drew (.cells ROW NEf) none
  have hg0 : w.grownBy W1 none := by rw [hW1]; exact ⟨hga.os, hga.tape, hga.output, hga.size, hga.block⟩
  have hvb : vb < w.heap.size := hv.lt
  have hv1 : RowAt W1 vb NEf (rnL X) := by unfold RowAt; rw [hg0.block vb hvb (by simp)]; exact hv
  have hcp1 : ∀ ty dc, (Builtin.copy_ #[32, 32] ty #[.slice (some ⟨w.heap.size, i * 33, none⟩) (n + 1 - i) dc, .slice (some ⟨vb, 0, none⟩) 1 1]).run Tryd.prog W1 = .ok (goInt 1) (W1.setCells w.heap.size (i * 33) (rnL X)) := fun ty dc =>
    run_copy_k W1 _ _ ty NEf 33 w.heap.size (i * 33) (n + 1 - i) dc ⟨vb, 0, none⟩ 1 1 1 (rnL X) Tryd.underlying32 hsz (by simp only [Nat.min_def]; split <;> omega) (rnL_len hX)
      (fun j v hj => by
        rw [Addr.add_lit, Nat.zero_add]
        exact hv1.cell j hj)
      (fun j hj => own_there ho0' _ (by rw [rnL_len hX] at hj; omega)) (rnL_one X)
  obtain ⟨ho1, hg1⟩ := own_setCells (rnL X) (i * 33) ho0'
  obtain ⟨W2, hW2⟩ : ∃ W2, W2 = W1.setCells w.heap.size (i * 33) (rnL X) := ⟨_, rfl⟩
  rw [← hW2] at ho1 hg1 hcp1
  have hgne : g ≠ w.heap.size := by omega
  have hgW : W2.heap[g]? = w.heap[g]? := by
    rw [hg1.block g (Nat.lt_of_lt_of_le hgl hg0.size) (fun e => hgne (Option.some.inj e)), hg0.block g hgl (by simp)]
  have hcp2 : ∀ ty dc sc, (Builtin.copy_ #[32, 32] ty #[.slice (some ⟨w.heap.size, (i + 1) * 33, none⟩) (n - i) dc, .slice (some ⟨g, i * 33, none⟩) (n - i) sc]).run Tryd.prog W2.drew = .ok (goInt ((n - i : Nat) : Int)) (W2.drew.setCells w.heap.size ((i + 1) * 33) news) := fun ty dc sc =>
    run_copy_k W2.drew _ _ ty NEf 33 w.heap.size ((i + 1) * 33) (n - i) dc ⟨g, i * 33, none⟩ (n - i) sc (n - i) news Tryd.underlying32 hsz (by simp only [Nat.min_def]; split <;> omega) hnl
      (fun j v hj => by
        rw [Addr.add_lit]
        rw [← hdr, List.getElem?_drop] at hj
        have hlt := (List.getElem?_eq_some_iff.1 hj).1
        have h2 := (World.ownsRow.cellAt hown0 (i * 33 + j) (by rw [hfl] at hlt; exact hlt)).trans hj
        rw [cell_of_row w g _ cur NEf (0, 0) hcur] at h2
        rw [cell_of_row W2.drew g _ cur NEf (0, 0) (hgW.trans hcur)]
        exact h2)
      (fun j hj => own_there (w := W2.drew) ho1 _ (by rw [hnl] at hj; omega)) (by rw [hnews]; exact flatG_one rnK hdok)
  obtain ⟨ho2, hg2⟩ := own_setCells news ((i + 1) * 33) (w := W2.drew) ho1
  have HFIN := Lib.hid (flatG_grow h.2 (show rnK.ok X from hX) hln (Nat.le_of_lt hi) xs hxs hxt)
  have HO2 := Lib.hid ho2
  have HG2 : Hid (w.grownBy (W2.drew.setCells w.heap.size ((i + 1) * 33) news) none) := Lib.hid ⟨hg2.os.trans (hg1.os.trans hg0.os), hg2.tape.trans (hg1.tape.trans hg0.tape), hg2.output.trans (hg1.output.trans hg0.output), Nat.le_trans hg0.size (Nat.le_trans hg1.size hg2.size), fun k hk hkn => by
    have hk1 : k ≠ w.heap.size := by omega
    rw [hg2.block k (Nat.lt_of_lt_of_le hk (Nat.le_trans hg0.size hg1.size)) (fun e => hk1 (Option.some.inj e))]
    show W2.heap[k]? = _
    rw [hg1.block k (Nat.lt_of_lt_of_le hk hg0.size) (fun e => hk1 (Option.some.inj e)), hg0.block k hk hkn]⟩
  have HNE := Lib.hid hnews
  have HLN := Lib.hid hln
  have HOK := Lib.hid h.2
  have HXX := Lib.hid hX
  have HIN := Lib.hid hi
  have HW1 := Lib.hid hW1
  have hi0 : (0 : Int) ≤ (i : Int) := by omega
  have hiI : (i : Int) < (n : Int) := by omega
  have hiL : (i : Int) ≤ (n : Int) := by omega
  have hnI : (n : Int) ≤ 1000000 := by omega
  have hncI : (n : Int) ≤ (c : Int) := by omega
  have hrI : (c : Int) < (n : Int) + 1 := by omega
  have hcI : (c : Int) ≤ 9223372036854775807 := by omega
  have hne : ¬ ((i : Int) = (n : Int)) := by omega
  have hwn : IntKind.i64.wrap ((n : Int) + 1) = (n : Int) + 1 := IntWalk.i64_in _ (by omega)
  have hwi : IntKind.i64.wrap ((i : Int) + 1) = (i : Int) + 1 := IntWalk.i64_in _ (by omega)
  have hwd : IntKind.i64.wrap ((n : Int) + 1 - (i : Int)) = (n : Int) + 1 - (i : Int) := IntWalk.i64_in _ (by omega)
  have htn : ((i : Int) + 1).toNat = i + 1 := by omega
  have htn2 : ((n : Int) + 1).toNat = n + 1 := by omega
  have hi1 : (0 : Int) ≤ (i : Int) + 1 := by omega
  have hi2 : (i : Int) + 1 ≤ (n : Int) + 1 := by omega
  have hi3 : (i : Int) ≤ (n : Int) + 1 := by omega
  have hb2 : ¬ (c = i) := by omega
  have hb4 : ¬ (G = i) := by omega
  have hb5 : ¬ (G = i + 1) := by omega
  have hGL : G ≤ 9223372036854775807 := by unfold maxLen at hGm; omega
  have HWS : Hid (w.heap.size = w.heap.size) := Lib.hid rfl
  have HW2 := Lib.hid hW2
  clear hnews hdok hnl hfl hdr hown0 ho0 ho0' ho1 ho2 hg0 hg1 hg2 hga h hgl hgb hcm hln hcur hcsz hv hv1 hvb hi hsz hroom hX hG hROW hRl hzl hxs hxt hxsE hGm hol hold hgne hgW hW1 hW2 hi0 hz0 hz1 hz2 hb
  have hi0 : (0 : Int) ≤ (i : Int) := by omega
  go_enter Tryd.func76, Tryd.ntmps76
  go_wp2_with (first
    | ((with_reducible show wpList _ _ _ (⟨some 40, _, _, _, _, _⟩ :: _) _ _); go_must (refine Lib.wpList_append_run _ rfl _ _ _ _ rfl _ _ rfl rfl _ _ (hrz _) ?_); rw [← HW1.out])
    | ((with_reducible show wpList _ _ _ (⟨some 45, _, _, _, _, _⟩ :: _) _ _); go_must (refine wl_copy_run _ rfl _ _ 32 32 rfl _ _ rfl rfl (hcp1 _ _) ?_)))
  go_region_law ((refine wp_copy_run _ _ 32 32 rfl _ _ (by simp [Act.eval, Act.put]) (by simp [Act.eval, Act.put]) (hcp2 _ _ _) ?_))
  go_wp2
  go_ret
  have hle : (L.take i ++ X :: L.drop i).length = n + 1 := by
    rw [List.length_append, List.length_cons, List.length_take, List.length_drop, HLN.out]
    have := HIN.out
    omega
  refine ⟨some ⟨w.heap.size, 0, none⟩, G, rfl, ⟨?_, fun x hx => ?_⟩, HG2.out.but _, .inr ⟨w.heap.size, rfl, Nat.le_refl _⟩⟩
  · rw [hle, ← HFIN.out]
    have := HO2.out
    rw [HNE.out] at this ⊢
    exact this
  · rcases List.mem_append.1 hx with hx | hx
    · exact HOK.out x (List.mem_of_mem_take hx)
    · rcases List.mem_cons.1 hx with rfl | hx
      · exact HXX.out
      · exact HOK.out x (List.mem_of_mem_drop hx)
theorem insert_any (a : Option Addr) (n c i base vb : Nat) (L : List RName) (X : RName) (w : World) (h : OwnG rnK NEf w base (.slice a n c) L) (hX : X.2.length = 32) (hv : RowAt w vb NEf (rnL X)) (hvb : ∀ k, (Value.slice a n c).ownBlock = some k → vb ≠ k) (hi : i ≤ n) (hn : n ≤ 1000000) (hb : base ≤ w.heap.size) :
    Calls Tryd.prog FIn #[.slice a n c, .int .i64 i, .slice (some ⟨vb, 0, none⟩) 1 1] w (InsIs w base (.slice a n c) (L.take i ++ X :: L.drop i) (n + 1)) := by
  rcases Nat.lt_or_ge i n with h1 | h1
  · obtain ⟨g, rfl, _⟩ := h.row (by omega)
    rcases Nat.lt_or_ge c (n + 1) with h2 | h2
    · exact insGrow_any g n c i base vb L X w h hX hv h1 h2 hn hb
    · exact insRoom_any g n c i base vb L X w h hX hv (hvb g rfl) h1 h2 hn
  · obtain rfl : i = n := by omega
    have e : L.take i ++ X :: L.drop i = L ++ [X] := by rw [List.take_of_length_le (by rw [h.len]; exact Nat.le_refl _), List.drop_eq_nil_of_le (by rw [h.len]; exact Nat.le_refl _)]
    rw [e]
    exact insEnd_any a i c base vb L X w h hX hv hb hn
#print axioms insert_any
end Go.Proofs.YtejooogfnnidcaaDoor

namespace Go.Proofs.YtejooogfnnidcaaDoor
open Go.RowKit

theorem list32 {l : List UInt8} (h : l.length = 32) : ∃ b0 b1 b2 b3 b4 b5 b6 b7 b8 b9 b10 b11 b12 b13 b14 b15 b16 b17 b18 b19 b20 b21 b22 b23 b24 b25 b26 b27 b28 b29 b30 b31, l = [b0, b1, b2, b3, b4, b5, b6, b7, b8, b9, b10, b11, b12, b13, b14, b15, b16, b17, b18, b19, b20, b21, b22, b23, b24, b25, b26, b27, b28, b29, b30, b31] := by
  match l, h with
  | [b0, b1, b2, b3, b4, b5, b6, b7, b8, b9, b10, b11, b12, b13, b14, b15, b16, b17, b18, b19, b20, b21, b22, b23, b24, b25, b26, b27, b28, b29, b30, b31], _ => exact ⟨b0, b1, b2, b3, b4, b5, b6, b7, b8, b9, b10, b11, b12, b13, b14, b15, b16, b17, b18, b19, b20, b21, b22, b23, b24, b25, b26, b27, b28, b29, b30, b31, rfl⟩
/-- What an update comes to, of names in order; the error's number. -/
def moveF (L : List RName) (u : UpdV) : List RName × Nat :=
  if nameF u.name = false then ([], 10)
  else if (if thereF L u.name then (gd L (findF L u.name)).2 else idZero) ≠ u.old then ([], 15)
  else if thereF L u.name then
    if u.new = idZero then (L.eraseIdx (findF L u.name), 0) else (L.set (findF L u.name) ((gd L (findF L u.name)).1, u.new), 0)
  else if u.new = idZero then (L, 0)
  else if L.length = 64 then ([], 3)
  else (L.take (findF L u.name) ++ (u.name, u.new) :: L.drop (findF L u.name), 0)
def upC (u : UpdV) : Array Value := (upL u).toArray
theorem grown_below {w w' : World} (h : Below w.heap.size w w') (row : Option Nat) : w.grownBy w' row := ⟨h.os, h.tape, h.output, h.size, fun k hk _ => h.block k hk⟩
theorem told_later {w w' : World} {v v' : Value} (h : Told w' v v') (hb : Below w.heap.size w w') : Told w v v' := by
  rcases h with h | ⟨k, hk, hl⟩
  · exact .inl h
  · exact .inr ⟨k, hk, Nat.le_trans hb.size hl⟩
theorem up_name {w : World} {g : Nat} {E : TypeId} {u : UpdV} (h : RowAt w g E (upL u)) : w.cell? ⟨g, 1, none⟩ = some (.string (strB u.name)) := h.cell 1 rfl
theorem up_kind {w : World} {g : Nat} {E : TypeId} {u : UpdV} (h : RowAt w g E (upL u)) : w.cell? ⟨g, 0, none⟩ = some (.int .u8 (u.kind : Int)) := h.cell 0 rfl
theorem up_old {w : World} {g : Nat} {E : TypeId} {u : UpdV} (h : RowAt w g E (upL u)) : w.rangeAt g 2 (u.old.map B) :=
  h.range (l := [.int .u8 (u.kind : Int), .string (strB u.name)]) (m := u.old.map B) (r := u.new.map B) rfl
theorem up_new {w : World} {g : Nat} {E : TypeId} {u : UpdV} (hu : UpOk u) (h : RowAt w g E (upL u)) : w.rangeAt g 34 (u.new.map B) := by
  have := h.range (l := [.int .u8 (u.kind : Int), .string (strB u.name)] ++ u.old.map B) (m := u.new.map B) (r := []) (by simp [upL])
  simpa [hu.2.1] using this
theorem built_rn (s l : List UInt8) (hl : l.length = 32) : Tryd.prog.built NEf [(0, .string (strB s)), (1, .agg (idCells l))] = some (rnL (s, l)).toArray := by
  obtain ⟨b0, b1, b2, b3, b4, b5, b6, b7, b8, b9, b10, b11, b12, b13, b14, b15, b16, b17, b18, b19, b20, b21, b22, b23, b24, b25, b26, b27, b28, b29, b30, b31, rfl⟩ := list32 hl
  kernel_rfl
theorem exec_rn {w : World} {o : Oper} {a : Act} (x0 x1 : Operand) (ho : o.op = .build NEf #[(0, x0), (1, x1)]) (s l : List UInt8) (hl : l.length = 32) (p : ByteArray) (hp : p = strB s)
    (h0 : a.eval x0 = .string p) (h1 : a.eval x1 = .agg (idCells l)) : (execOp a.eval o).run Tryd.prog w = .ok (.value (.agg (rnL (s, l)).toArray)) w := by
  subst hp
  refine exec_build _ _ ho _ ?_
  have e : (#[(0, x0), (1, x1)].map fun (q : Nat × Operand) => (q.1, a.eval q.2)).toList = [(0, .string (strB s)), (1, .agg (idCells l))] := by simp [h0, h1]
  exact (congrArg _ e).trans (built_rn s l hl)
theorem fill_rn (x : RName) (hx : x.2.length = 32) (z : Value) (hz : z = .agg (rnL ([], zId)).toArray) : Instr.fill (fun i => some (i * 33, 33)) ((Array.range (1 * 33)).map (z.cells[· % z.cells.size]!)) [(0, .agg (rnL x).toArray)] = some (rnL x).toArray := by
  subst hz
  obtain ⟨s, l⟩ := x
  obtain ⟨b0, b1, b2, b3, b4, b5, b6, b7, b8, b9, b10, b11, b12, b13, b14, b15, b16, b17, b18, b19, b20, b21, b22, b23, b24, b25, b26, b27, b28, b29, b30, b31, rfl⟩ := list32 hx
  kernel_rfl
theorem sl_rn {ops : Array Oper} {rest : List Oper} {o : Oper} {a : Act} {w : World} {Q : Exit → Act → World → Prop} (hg : o.guard = none) (x : Operand) (ho : o.op = .buildSlice 32 1 #[(0, x)]) (X : RName) (hX : X.2.length = 32) (hx : a.eval x = .agg (rnL X).toArray)
    (h : wpList Tryd.prog ops Q rest (a.put o.dst (.slice (some ⟨w.heap.size, 0, none⟩) 1 1)) (w.alloc (.cells (rnL X).toArray NEf))) : wpList Tryd.prog ops Q (o :: rest) a w :=
  wpList_plain hg fun _ hK => by
    obtain ⟨i0, hi, hz0, hz1, hz2⟩ := info_parts infoNf
    refine wp_buildSlice 32 NEf 1 #[(0, x)] ho (rnL X).toArray i0 _ Tryd.underlying32 hi hz0 (by rw [hz1]; decide) (by rw [hz1]; decide) ?_ (hK _ _ h)
    rw [hz1]
    have e : (#[(0, x)].map fun (p : Nat × Operand) => (p.1, a.eval p.2)).toList = [(0, .agg (rnL X).toArray)] := by simp [hx]
    exact (congrArg (Instr.fill (fun i => some (i * 33, 33)) _) e).trans (fill_rn X hX _ rfl)
/-- An id stored into its place. -/
theorem own_setId {w : World} {base g n c k : Nat} {L : List RName} {l : List UInt8} (h : OwnG rnK NEf w base (.slice (some ⟨g, 0, none⟩) n c) L) (hk : k < n) (hl : l.length = 32) :
    OwnG rnK NEf (w.setCells g (k * 33 + 1) (idCells l).toList) base (.slice (some ⟨g, 0, none⟩) n c) (L.set k ((gd L k).1, l)) ∧ w.grownBy (w.setCells g (k * 33 + 1) (idCells l).toList) (some g) := by
  have hln := h.len
  have hown : w.ownsRow base NEf 33 (.slice (some ⟨g, 0, none⟩) n c) n (flatG rnK L) := hln ▸ h.1
  obtain ⟨h1, h2⟩ := own_setCells (idCells l).toList (k * 33 + 1) hown
  have hok : ∀ x ∈ L.set k ((gd L k).1, l), rnK.ok x := fun x hx => by
    rcases List.mem_or_eq_of_mem_set hx with hx | rfl
    · exact h.2 x hx
    · exact hl
  refine ⟨⟨?_, hok⟩, h2⟩
  rw [List.length_set, hln]
  have e : putL (flatG rnK L) (k * 33 + 1) (idCells l).toList = flatG rnK (L.set k ((gd L k).1, l)) := by
    have hfl : (flatG rnK L).length = n * 33 := by rw [flatG_len h.2, hln]; rfl
    have hfs : (flatG rnK (L.set k ((gd L k).1, l))).length = n * 33 := by rw [flatG_len hok, List.length_set, hln]; rfl
    have hil : (idCells l).toList.length = 32 := by rw [Array.length_toList]; exact idCells_size hl
    apply List.ext_getElem?
    intro j
    rw [putL_get, hfl, hil]
    rcases Nat.lt_or_ge j (n * 33) with hj | hj
    · obtain ⟨q, r, hr, rfl⟩ : ∃ q r, r < 33 ∧ j = q * 33 + r := ⟨j / 33, j % 33, Nat.mod_lt _ (by decide), by omega⟩
      have hq : q < n := by omega
      have a1 := flatG_at rnK h.2 q r (by omega) hr
      have a2 := flatG_at rnK hok q r (by rw [List.length_set]; omega) hr
      have e1 : rnK.k = 33 := rfl
      rw [e1] at a1 a2
      rw [a1, a2]
      by_cases hqk : q = k
      · subst hqk
        have e2 : gd (L.set q ((gd L q).1, l)) q = ((gd L q).1, l) := by unfold gd; simp [hln, hk]
        rw [e2]
        show _ = (rnL ((gd L q).1, l))[r]?
        cases r with
        | zero => rw [if_neg (by omega)]; rfl
        | succ r =>
          rw [if_pos ⟨by omega, by omega, hj⟩, show q * 33 + (r + 1) - (q * 33 + 1) = r from by omega]
          simp [idCells, rnL]
      · have e2 : gd (L.set k ((gd L k).1, l)) q = gd L q := by unfold gd; simp [Ne.symm hqk]
        rw [e2, if_neg (fun ⟨h1, h2, _⟩ => hqk (by omega))]
    · rw [if_neg (by omega), List.getElem?_eq_none (by omega), List.getElem?_eq_none (by omega)]
  rw [← e]
  exact h1
theorem rn_id0 {w : World} {g n c j : Nat} {L : List RName} (h : AtG rnK w (some ⟨g, 0, none⟩) n c L) (hj : j < n) : w.rangeAt g (j * 33 + 1) ((gd L j).2.map B) := by
  have := rn_id h hj
  rwa [Nat.zero_add] at this
theorem find_is (a : Option Addr) (n c : Nat) (L : List RName) (s : List UInt8) (p : ByteArray) (hp : strB s = p) (w : World) (h : AtG rnK w a n c L) (hA : Asc L) (hn : n ≤ 100000) (k : Nat) (hk : findF L s = k) (t : Bool) (ht : thereF L s = t) :
    Calls Tryd.prog 20 #[.slice a n c, .string p] w fun e w' => e = .returned (.tuple #[.int .i64 k, .bool t]) ∧ Below w.heap.size w w' := by subst hp; exact find_any a n c L s w h hA hn k hk t ht
theorem name_isP (n : List UInt8) (p : ByteArray) (hp : strB n = p) (q : Bool) (hq : nameF n = q) (w : World) : Calls Tryd.prog 57 #[.string p] w fun e w' => e = .returned (.bool q) ∧ Below w.heap.size w w' := by subst hp; exact name_is n q hq w
theorem ne_lt {a b : Nat} (h : a < b) : some a ≠ some b := fun e => by cases e; omega
/-- What move hands back. -/
def MoveIs (w : World) (base : Nat) (v : Value) (r : List RName × Nat) (e : Ending) (w' : World) : Prop := ∃ (a' : Option Addr) (n' c' : Nat), e = .returned (.tuple #[.slice a' n' c', .int .i64 (r.2 : Nat)]) ∧ (r.2 = 0 → OwnG rnK NEf w' base (.slice a' n' c') r.1 ∧ Told w v (.slice a' n' c')) ∧ w.grownBy w' v.ownBlock

set_option maxRecDepth 100000 in
set_option maxHeartbeats 2000000 in
theorem move_any (a : Option Addr) (n c base : Nat) (L : List RName) (u : UpdV) (w : World) (h : OwnG rnK NEf w base (.slice a n c) L) (hA : Asc L) (hu : UpOk u) (hb : base ≤ w.heap.size) (hn : n ≤ 100000) :
    Calls Tryd.prog 65 #[.slice a n c, .agg (upC u)] w (MoveIs w base (.slice a n c) (moveF L u)) := by
  have HLN := Lib.hid h.len
  have HO := Lib.hid h
  have HBS := Lib.hid hb
  have HUO := Lib.hid hu
  have HNM6 := Lib.hid (Nat.le_trans hn (by decide) : n ≤ 1000000)
  obtain ⟨m, hm⟩ : ∃ m, nameF u.name = m := ⟨_, rfl⟩
  obtain ⟨k, hk⟩ : ∃ k, findF L u.name = k := ⟨_, rfl⟩
  obtain ⟨t, ht⟩ : ∃ t, thereF L u.name = t := ⟨_, rfl⟩
  obtain ⟨z, hz⟩ : ∃ z, decide (u.new = idZero) = z := ⟨_, rfl⟩
  obtain ⟨p, hp⟩ : ∃ p, strB u.name = p := ⟨_, rfl⟩
  have hkn : k ≤ n := by rw [← hk, ← h.len]; exact findF_le L u.name
  have HKL := Lib.hid hkn
  have HPE := Lib.hid hp
  have HNM := Lib.hid (fun W => name_isP u.name p hp m hm W)
  have HFD := Lib.hid (fun W (hO : OwnG rnK NEf W base (.slice a n c) L) => find_is a n c L u.name p hp W hO.atG hA hn k hk t ht)
  have HZE := Lib.hid (fun W => zero_any u.new hu.2.2 z hz W)
  have HR := Lib.hid (show RowAt (w.alloc (.cells (upC u) UEf)) w.heap.size UEf (upL u) from heap_alloc_new w _)
  have HB := Lib.hid ((Below.refl w.heap.size w).alloc (Nat.le_refl _) (.cells (upC u) UEf))
  have HC1 := Lib.hid (fun W (hh : RowAt W w.heap.size UEf (upL u)) => (hp ▸ up_name hh : W.cell? ⟨w.heap.size, 1, none⟩ = some (.string p)))
  have HC2 := Lib.hid (fun W (hh : RowAt W w.heap.size UEf (upL u)) => up_old hh)
  have HC34 := Lib.hid (fun W (hh : RowAt W w.heap.size UEf (upL u)) => up_new hu hh)
  have c1 := HC1.out _ HR.out
  have HMV : Hid (moveF L u = if m = false then ([], 10) else if (if t then (gd L k).2 else idZero) ≠ u.old then ([], 15) else if t then (if z then (L.eraseIdx k, 0) else (L.set k ((gd L k).1, u.new), 0)) else if z then (L, 0) else if L.length = 64 then ([], 3) else (L.take k ++ (u.name, u.new) :: L.drop k, 0)) := Lib.hid (by
    unfold moveF
    rw [hm, hk, ht, ← hz]
    simp only [decide_eq_true_eq])
  have HK := Lib.hid hk
  have HT := Lib.hid ht
  have hnI : (n : Int) ≤ 100000 := by omega
  have hkI : (k : Int) ≤ (n : Int) := by omega
  have hk0 : (0 : Int) ≤ (k : Int) := by omega
  clear h hA hu hb hn hm hk ht hz hp hkn
  generalize moveF L u = MV at HMV ⊢
  cases m
  · obtain rfl : MV = ([], 10) := HMV.out.trans (if_pos rfl)
    go_enter Tryd.func65, Tryd.ntmps65
    go_wp2_with (first
      | (go_at_call 57; go_must (refine (HNM.out _).mono ?_); rintro e w1 ⟨rfl, hb1⟩; have HB1 := Lib.hid (HB.out.trans (hb1.mono HB.out.size)); have HR1 := Lib.hid (HR.out.below hb1); have c1b := HC1.out _ HR1.out; clear hb1))
    go_ret2
    exact ⟨none, 0, 0, rfl, fun h => absurd h (by decide), grown_below HB1.out _⟩
  have hMV : MV = _ := HMV.out.trans (if_neg (by simp))
  cases t
  · simp only [Bool.false_eq_true, if_false] at hMV
    by_cases ho : idZero = u.old
    · have HOLD : Hid (decide (idZero = u.old) = true) := Lib.hid (decide_eq_true ho)
      rw [if_neg (not_not_intro ho)] at hMV
      cases z
      · rw [if_neg (by simp)] at hMV
        by_cases hl : L.length = 64
        · rw [if_pos hl] at hMV
          subst hMV
          have e64 : n = 64 := by rw [← HLN.out]; exact hl
          have hn64 : decide (n = 64) = true := decide_eq_true e64
          have hn64B : ((n : Int) == 64) = true := by rw [beq_iff_eq]; omega
          clear ho hl e64
          go_enter Tryd.func65, Tryd.ntmps65
          go_wp2_with (first
            | (go_at_call 57; go_must (refine (HNM.out _).mono ?_); rintro e w1 ⟨rfl, hb1⟩; have HB1 := Lib.hid (HB.out.trans (hb1.mono HB.out.size)); have HR1 := Lib.hid (HR.out.below hb1); have c1b := HC1.out _ HR1.out; clear hb1)
            | (go_at_call 20; go_must (refine (HFD.out _ (HO.out.below HB1.out)).mono ?_); rintro e w2 ⟨rfl, hb2⟩; have HB2 := Lib.hid (HB1.out.trans (hb2.mono HB1.out.size)); have HR2 := Lib.hid (HR1.out.below hb2); clear hb2)
            | ((with_reducible show wpList _ _ _ (⟨some 8, _, _, _, _, _⟩ :: _) _ _); go_must (refine alloc_id rfl rfl ?_); intro w3 hid3 hb3 hs3; have HI3 := Lib.hid hid3; have HB3 := Lib.hid (HB2.out.trans (hb3.mono HB2.out.size)); have HR3 := Lib.hid (HR2.out.below hb3); have HG3 := Lib.hid HR2.out.lt; generalize w2.heap.size = g8 at hid3 hs3 HI3 HG3 ⊢; clear hid3 hb3 hs3)
            | ((with_reducible show wpList _ _ _ (⟨some 36, _, _, _, _, _⟩ :: _) _ _); go_must (refine wl_load rfl _ rfl _ _ idZero len_idZero rfl HI3.out.range ?_))
            | ((with_reducible show wpList _ _ _ (⟨some 38, _, _, _, _, _⟩ :: _) _ _); go_must (refine wl_load rfl _ rfl _ _ u.old HUO.out.2.1 rfl (HC2.out _ HR3.out) ?_))
            | ((with_reducible show wpList _ _ _ (⟨some 39, _, _, _, _, _⟩ :: _) _ _); go_must (refine wl_ex rfl (exec_neqId _ _ _ rfl idZero u.old len_idZero HUO.out.2.1 rfl rfl) ?_); rw [HOLD.out])
            | ((with_reducible show wpList _ _ _ (⟨some 62, _, _, _, _, _⟩ :: _) _ _); go_must (refine wl_load rfl _ rfl _ _ u.new HUO.out.2.2 rfl (HC34.out _ HR3.out) ?_))
            | (go_at_call 58; go_must (refine (HZE.out _).mono ?_); rintro e w5 ⟨rfl, hb5⟩; have HB5 := Lib.hid (HB3.out.trans (hb5.mono HB3.out.size)); have HR5 := Lib.hid (HR3.out.below hb5); have c1z := HC1.out _ HR5.out; clear hb5))
          go_ret2
          exact ⟨none, 0, 0, rfl, fun h => absurd h (by decide), grown_below HB5.out _⟩
        · rw [if_neg hl] at hMV
          subst hMV
          have e64 : ¬ n = 64 := by rw [← HLN.out]; exact hl
          have hn64 : decide (n = 64) = false := decide_eq_false e64
          have hn64B : ((n : Int) == 64) = false := beq_eq_false_iff_ne.2 (by omega)
          clear ho hl e64
          go_enter Tryd.func65, Tryd.ntmps65
          go_wp2_with (first
            | (go_at_call 57; go_must (refine (HNM.out _).mono ?_); rintro e w1 ⟨rfl, hb1⟩; have HB1 := Lib.hid (HB.out.trans (hb1.mono HB.out.size)); have HR1 := Lib.hid (HR.out.below hb1); have c1b := HC1.out _ HR1.out; clear hb1)
            | (go_at_call 20; go_must (refine (HFD.out _ (HO.out.below HB1.out)).mono ?_); rintro e w2 ⟨rfl, hb2⟩; have HB2 := Lib.hid (HB1.out.trans (hb2.mono HB1.out.size)); have HR2 := Lib.hid (HR1.out.below hb2); clear hb2)
            | ((with_reducible show wpList _ _ _ (⟨some 8, _, _, _, _, _⟩ :: _) _ _); go_must (refine alloc_id rfl rfl ?_); intro w3 hid3 hb3 hs3; have HI3 := Lib.hid hid3; have HB3 := Lib.hid (HB2.out.trans (hb3.mono HB2.out.size)); have HR3 := Lib.hid (HR2.out.below hb3); have HG3 := Lib.hid HR2.out.lt; generalize w2.heap.size = g8 at hid3 hs3 HI3 HG3 ⊢; clear hid3 hb3 hs3)
            | ((with_reducible show wpList _ _ _ (⟨some 36, _, _, _, _, _⟩ :: _) _ _); go_must (refine wl_load rfl _ rfl _ _ idZero len_idZero rfl HI3.out.range ?_))
            | ((with_reducible show wpList _ _ _ (⟨some 38, _, _, _, _, _⟩ :: _) _ _); go_must (refine wl_load rfl _ rfl _ _ u.old HUO.out.2.1 rfl (HC2.out _ HR3.out) ?_))
            | ((with_reducible show wpList _ _ _ (⟨some 39, _, _, _, _, _⟩ :: _) _ _); go_must (refine wl_ex rfl (exec_neqId _ _ _ rfl idZero u.old len_idZero HUO.out.2.1 rfl rfl) ?_); rw [HOLD.out])
            | ((with_reducible show wpList _ _ _ (⟨some 62, _, _, _, _, _⟩ :: _) _ _); go_must (refine wl_load rfl _ rfl _ _ u.new HUO.out.2.2 rfl (HC34.out _ HR3.out) ?_))
            | (go_at_call 58; go_must (refine (HZE.out _).mono ?_); rintro e w5 ⟨rfl, hb5⟩; have HB5 := Lib.hid (HB3.out.trans (hb5.mono HB3.out.size)); have HR5 := Lib.hid (HR3.out.below hb5); have c1z := HC1.out _ HR5.out; clear hb5)
            | ((with_reducible show wpList _ _ _ (⟨some 31, _, _, _, _, _⟩ :: _) _ _); go_must (refine wl_load rfl _ rfl _ _ u.new HUO.out.2.2 rfl (HC34.out _ HR5.out) ?_))
            | ((with_reducible show wpList _ _ _ (⟨some 32, _, _, _, _, _⟩ :: _) _ _); go_must (refine wl_ex rfl (exec_rn _ _ rfl u.name u.new HUO.out.2.2 p HPE.out.symm rfl rfl) ?_))
            | ((with_reducible show wpList _ _ _ (⟨some 33, _, _, _, _, _⟩ :: _) _ _); go_must (refine sl_rn rfl _ rfl (u.name, u.new) HUO.out.2.2 rfl ?_); have HB6 := Lib.hid (HB5.out.alloc HB5.out.size (.cells (rnL (u.name, u.new)).toArray NEf)); have HV6 := Lib.hid (show RowAt (w5.alloc (.cells (rnL (u.name, u.new)).toArray NEf)) w5.heap.size NEf (rnL (u.name, u.new)) from heap_alloc_new w5 _); have HVB := Lib.hid (fun q (hq : (Value.slice a n c).ownBlock = some q) => (by have h1 := (HO.out.lt q hq).2; have h2 := HB5.out.size; omega : w5.heap.size ≠ q)))
            | (go_at_call 76; go_must (refine (insert_any a n c k base _ L (u.name, u.new) _ (HO.out.below HB6.out) HUO.out.2.2 HV6.out HVB.out HKL.out HNM6.out (Nat.le_trans HBS.out HB6.out.size)).mono ?_); rintro e w7 ⟨a7, c7, rfl, ho7, hg7, ht7⟩; have HT7 := Lib.hid (told_later ht7 HB6.out); have HO7 := Lib.hid ho7; have HG7 := Lib.hid hg7; clear ho7 hg7 ht7))
          go_ret2
          exact ⟨a7, n + 1, c7, rfl, fun _ => ⟨HO7.out, HT7.out⟩, (grown_below HB6.out _).trans HG7.out⟩
      · rw [if_pos rfl] at hMV
        subst hMV
        clear ho
        go_enter Tryd.func65, Tryd.ntmps65
        go_wp2_with (first
          | (go_at_call 57; go_must (refine (HNM.out _).mono ?_); rintro e w1 ⟨rfl, hb1⟩; have HB1 := Lib.hid (HB.out.trans (hb1.mono HB.out.size)); have HR1 := Lib.hid (HR.out.below hb1); have c1b := HC1.out _ HR1.out; clear hb1)
          | (go_at_call 20; go_must (refine (HFD.out _ (HO.out.below HB1.out)).mono ?_); rintro e w2 ⟨rfl, hb2⟩; have HB2 := Lib.hid (HB1.out.trans (hb2.mono HB1.out.size)); have HR2 := Lib.hid (HR1.out.below hb2); clear hb2)
          | ((with_reducible show wpList _ _ _ (⟨some 8, _, _, _, _, _⟩ :: _) _ _); go_must (refine alloc_id rfl rfl ?_); intro w3 hid3 hb3 hs3; have HI3 := Lib.hid hid3; have HB3 := Lib.hid (HB2.out.trans (hb3.mono HB2.out.size)); have HR3 := Lib.hid (HR2.out.below hb3); have HG3 := Lib.hid HR2.out.lt; generalize w2.heap.size = g8 at hid3 hs3 HI3 HG3 ⊢; clear hid3 hb3 hs3)
          | ((with_reducible show wpList _ _ _ (⟨some 36, _, _, _, _, _⟩ :: _) _ _); go_must (refine wl_load rfl _ rfl _ _ idZero len_idZero rfl HI3.out.range ?_))
          | ((with_reducible show wpList _ _ _ (⟨some 38, _, _, _, _, _⟩ :: _) _ _); go_must (refine wl_load rfl _ rfl _ _ u.old HUO.out.2.1 rfl (HC2.out _ HR3.out) ?_))
          | ((with_reducible show wpList _ _ _ (⟨some 39, _, _, _, _, _⟩ :: _) _ _); go_must (refine wl_ex rfl (exec_neqId _ _ _ rfl idZero u.old len_idZero HUO.out.2.1 rfl rfl) ?_); rw [HOLD.out])
          | ((with_reducible show wpList _ _ _ (⟨some 62, _, _, _, _, _⟩ :: _) _ _); go_must (refine wl_load rfl _ rfl _ _ u.new HUO.out.2.2 rfl (HC34.out _ HR3.out) ?_))
          | (go_at_call 58; go_must (refine (HZE.out _).mono ?_); rintro e w5 ⟨rfl, hb5⟩; have HB5 := Lib.hid (HB3.out.trans (hb5.mono HB3.out.size)); have HR5 := Lib.hid (HR3.out.below hb5); have c1z := HC1.out _ HR5.out; clear hb5))
        go_ret2
        exact ⟨a, n, c, rfl, fun _ => ⟨HO.out.below HB5.out, .inl rfl⟩, grown_below HB5.out _⟩
    · have HOLD : Hid (decide (idZero = u.old) = false) := Lib.hid (decide_eq_false ho)
      rw [if_pos ho] at hMV
      subst hMV
      clear ho
      go_enter Tryd.func65, Tryd.ntmps65
      go_wp2_with (first
        | (go_at_call 57; go_must (refine (HNM.out _).mono ?_); rintro e w1 ⟨rfl, hb1⟩; have HB1 := Lib.hid (HB.out.trans (hb1.mono HB.out.size)); have HR1 := Lib.hid (HR.out.below hb1); have c1b := HC1.out _ HR1.out; clear hb1)
        | (go_at_call 20; go_must (refine (HFD.out _ (HO.out.below HB1.out)).mono ?_); rintro e w2 ⟨rfl, hb2⟩; have HB2 := Lib.hid (HB1.out.trans (hb2.mono HB1.out.size)); have HR2 := Lib.hid (HR1.out.below hb2); clear hb2)
        | ((with_reducible show wpList _ _ _ (⟨some 8, _, _, _, _, _⟩ :: _) _ _); go_must (refine alloc_id rfl rfl ?_); intro w3 hid3 hb3 hs3; have HI3 := Lib.hid hid3; have HB3 := Lib.hid (HB2.out.trans (hb3.mono HB2.out.size)); have HR3 := Lib.hid (HR2.out.below hb3); have HG3 := Lib.hid HR2.out.lt; generalize w2.heap.size = g8 at hid3 hs3 HI3 HG3 ⊢; clear hid3 hb3 hs3)
        | ((with_reducible show wpList _ _ _ (⟨some 36, _, _, _, _, _⟩ :: _) _ _); go_must (refine wl_load rfl _ rfl _ _ idZero len_idZero rfl HI3.out.range ?_))
        | ((with_reducible show wpList _ _ _ (⟨some 38, _, _, _, _, _⟩ :: _) _ _); go_must (refine wl_load rfl _ rfl _ _ u.old HUO.out.2.1 rfl (HC2.out _ HR3.out) ?_))
        | ((with_reducible show wpList _ _ _ (⟨some 39, _, _, _, _, _⟩ :: _) _ _); go_must (refine wl_ex rfl (exec_neqId _ _ _ rfl idZero u.old len_idZero HUO.out.2.1 rfl rfl) ?_); rw [HOLD.out]))
      go_ret2
      exact ⟨none, 0, 0, rfl, fun h => absurd h (by decide), grown_below HB3.out _⟩
  · have hkn2 : k < n := by
      have := HT.out
      unfold thereF at this
      rw [HK.out, HLN.out, Bool.and_eq_true] at this
      exact of_decide_eq_true this.1
    have HKN := Lib.hid hkn2
    have HXI : Hid ((gd L k).2.length = 32) := Lib.hid (HO.out.2 _ (gd_mem (by rw [HLN.out]; exact hkn2)))
    obtain ⟨g, rfl, hgb, hgl, _⟩ := HO.out.row (by omega)
    have hknI : (k : Int) < (n : Int) := by omega
    have HTH := Lib.hid (fun W (hW : Below w.heap.size w W) (j : Nat) (hj : j < (idCells u.new).size) => (by
      have h1 := (HO.out.below hW)
      have h2 : W.ownsRow base NEf 33 (.slice (some ⟨g, 0, none⟩) n c) n (flatG rnK L) := HLN.out ▸ h1.1
      have h3 := (own_cap h2).1
      rw [idCells_size HUO.out.2.2] at hj
      exact own_there h2 (k * 33 + 1 + j) (by omega) : (W.cell? ⟨g, k * 33 + 1 + j, none⟩).isSome = true ∧ W.frozen? ⟨g, k * 33 + 1 + j, none⟩ = false))
    simp only [if_true] at hMV
    clear hkn2 hgb hgl
    by_cases ho : (gd L k).2 = u.old
    · have HOLD : Hid (decide ((gd L k).2 = u.old) = true) := Lib.hid (decide_eq_true ho)
      rw [if_neg (not_not_intro ho)] at hMV
      cases z
      · rw [if_neg (by simp)] at hMV
        subst hMV
        clear ho
        go_enter Tryd.func65, Tryd.ntmps65
        go_wp2_with (first
          | (go_at_call 57; go_must (refine (HNM.out _).mono ?_); rintro e w1 ⟨rfl, hb1⟩; have HB1 := Lib.hid (HB.out.trans (hb1.mono HB.out.size)); have HR1 := Lib.hid (HR.out.below hb1); have c1b := HC1.out _ HR1.out; clear hb1)
          | (go_at_call 20; go_must (refine (HFD.out _ (HO.out.below HB1.out)).mono ?_); rintro e w2 ⟨rfl, hb2⟩; have HB2 := Lib.hid (HB1.out.trans (hb2.mono HB1.out.size)); have HR2 := Lib.hid (HR1.out.below hb2); clear hb2)
          | ((with_reducible show wpList _ _ _ (⟨some 8, _, _, _, _, _⟩ :: _) _ _); go_must (refine alloc_id rfl rfl ?_); intro w3 hid3 hb3 hs3; have HI3 := Lib.hid hid3; have HB3 := Lib.hid (HB2.out.trans (hb3.mono HB2.out.size)); have HR3 := Lib.hid (HR2.out.below hb3); have HG3 := Lib.hid HR2.out.lt; generalize w2.heap.size = g8 at hid3 hs3 HI3 HG3 ⊢; clear hid3 hb3 hs3)
          | ((with_reducible show wpList _ _ _ (⟨some 25, _, _, _, _, _⟩ :: _) _ _); go_must (refine wl_load rfl _ rfl _ _ (gd L k).2 HXI.out rfl (rn_id0 (HO.out.below HB3.out).atG HKN.out) ?_))
          | ((with_reducible show wpList _ _ _ (⟨_, Op.store _ (.tmp 8) _, _, _, _, _⟩ :: _) _ _); go_must (refine store_id rfl _ _ rfl _ _ (gd L k).2 rfl rfl HI3.out HXI.out ?_); intro w4 hid4 hg4 hs4; have HB4 := Lib.hid (HB3.out.grown hg4 HB3.out.size (fun q hq => by cases hq; exact Nat.le_of_lt HG3.out)); have HI4 := Lib.hid hid4; have HR4 := Lib.hid (HR3.out.grown hg4 (ne_lt HG3.out)); clear hid4 hg4 hs4)
          | ((with_reducible show wpList _ _ _ (⟨some 36, _, _, _, _, _⟩ :: _) _ _); go_must (refine wl_load rfl _ rfl _ _ (gd L k).2 HXI.out rfl HI4.out.range ?_))
          | ((with_reducible show wpList _ _ _ (⟨some 38, _, _, _, _, _⟩ :: _) _ _); go_must (refine wl_load rfl _ rfl _ _ u.old HUO.out.2.1 rfl (HC2.out _ HR4.out) ?_))
          | ((with_reducible show wpList _ _ _ (⟨some 39, _, _, _, _, _⟩ :: _) _ _); go_must (refine wl_ex rfl (exec_neqId _ _ _ rfl (gd L k).2 u.old HXI.out HUO.out.2.1 rfl rfl) ?_); rw [HOLD.out])
          | ((with_reducible show wpList _ _ _ (⟨some 44, _, _, _, _, _⟩ :: _) _ _); go_must (refine wl_load rfl _ rfl _ _ u.new HUO.out.2.2 rfl (HC34.out _ HR4.out) ?_))
          | (go_at_call 58; go_must (refine (HZE.out _).mono ?_); rintro e w5 ⟨rfl, hb5⟩; have HB5 := Lib.hid (HB4.out.trans (hb5.mono HB4.out.size)); have HR5 := Lib.hid (HR4.out.below hb5); have c1z := HC1.out _ HR5.out; clear hb5)
          | ((with_reducible show wpList _ _ _ (⟨some 57, _, _, _, _, _⟩ :: _) _ _); go_must (refine wl_load rfl _ rfl _ _ u.new HUO.out.2.2 rfl (HC34.out _ HR5.out) ?_))
          | ((with_reducible show wpList _ _ _ (⟨_, Op.store _ (.tmp 59) _, _, _, _, _⟩ :: _) _ _); go_must (refine wpList_store_mid rfl _ _ _ rfl g (k * 33 + 1) (idCells u.new) rfl rfl (HTH.out _ HB5.out) (by rw [idCells_size HUO.out.2.2]; exact info_id) (by unfold idCells; exact all_oneCell_toArray (B_one _)) ?_)))
        go_ret2
        obtain ⟨h1, h2⟩ := own_setId (HO.out.below HB5.out) HKN.out HUO.out.2.2
        exact ⟨some ⟨g, 0, none⟩, n, c, rfl, fun _ => ⟨h1, .inl rfl⟩, (grown_below HB5.out _).trans h2⟩
      · rw [if_pos rfl] at hMV
        subst hMV
        clear ho
        go_enter Tryd.func65, Tryd.ntmps65
        go_wp2_with (first
          | (go_at_call 57; go_must (refine (HNM.out _).mono ?_); rintro e w1 ⟨rfl, hb1⟩; have HB1 := Lib.hid (HB.out.trans (hb1.mono HB.out.size)); have HR1 := Lib.hid (HR.out.below hb1); have c1b := HC1.out _ HR1.out; clear hb1)
          | (go_at_call 20; go_must (refine (HFD.out _ (HO.out.below HB1.out)).mono ?_); rintro e w2 ⟨rfl, hb2⟩; have HB2 := Lib.hid (HB1.out.trans (hb2.mono HB1.out.size)); have HR2 := Lib.hid (HR1.out.below hb2); clear hb2)
          | ((with_reducible show wpList _ _ _ (⟨some 8, _, _, _, _, _⟩ :: _) _ _); go_must (refine alloc_id rfl rfl ?_); intro w3 hid3 hb3 hs3; have HI3 := Lib.hid hid3; have HB3 := Lib.hid (HB2.out.trans (hb3.mono HB2.out.size)); have HR3 := Lib.hid (HR2.out.below hb3); have HG3 := Lib.hid HR2.out.lt; generalize w2.heap.size = g8 at hid3 hs3 HI3 HG3 ⊢; clear hid3 hb3 hs3)
          | ((with_reducible show wpList _ _ _ (⟨some 25, _, _, _, _, _⟩ :: _) _ _); go_must (refine wl_load rfl _ rfl _ _ (gd L k).2 HXI.out rfl (rn_id0 (HO.out.below HB3.out).atG HKN.out) ?_))
          | ((with_reducible show wpList _ _ _ (⟨_, Op.store _ (.tmp 8) _, _, _, _, _⟩ :: _) _ _); go_must (refine store_id rfl _ _ rfl _ _ (gd L k).2 rfl rfl HI3.out HXI.out ?_); intro w4 hid4 hg4 hs4; have HB4 := Lib.hid (HB3.out.grown hg4 HB3.out.size (fun q hq => by cases hq; exact Nat.le_of_lt HG3.out)); have HI4 := Lib.hid hid4; have HR4 := Lib.hid (HR3.out.grown hg4 (ne_lt HG3.out)); clear hid4 hg4 hs4)
          | ((with_reducible show wpList _ _ _ (⟨some 36, _, _, _, _, _⟩ :: _) _ _); go_must (refine wl_load rfl _ rfl _ _ (gd L k).2 HXI.out rfl HI4.out.range ?_))
          | ((with_reducible show wpList _ _ _ (⟨some 38, _, _, _, _, _⟩ :: _) _ _); go_must (refine wl_load rfl _ rfl _ _ u.old HUO.out.2.1 rfl (HC2.out _ HR4.out) ?_))
          | ((with_reducible show wpList _ _ _ (⟨some 39, _, _, _, _, _⟩ :: _) _ _); go_must (refine wl_ex rfl (exec_neqId _ _ _ rfl (gd L k).2 u.old HXI.out HUO.out.2.1 rfl rfl) ?_); rw [HOLD.out])
          | ((with_reducible show wpList _ _ _ (⟨some 44, _, _, _, _, _⟩ :: _) _ _); go_must (refine wl_load rfl _ rfl _ _ u.new HUO.out.2.2 rfl (HC34.out _ HR4.out) ?_))
          | (go_at_call 58; go_must (refine (HZE.out _).mono ?_); rintro e w5 ⟨rfl, hb5⟩; have HB5 := Lib.hid (HB4.out.trans (hb5.mono HB4.out.size)); have HR5 := Lib.hid (HR4.out.below hb5); have c1z := HC1.out _ HR5.out; clear hb5)
          | (go_at_call 75; go_must (refine (deleteN_any g n c k (k + 1) base _ L _ (HO.out.below HB5.out) HKN.out rfl (by push_cast; rfl) HNM6.out).mono ?_); rintro e w6 ⟨rfl, ho6, hg6⟩))
        go_ret2
        exact ⟨some ⟨g, 0, none⟩, n - 1, c, rfl, fun _ => ⟨ho6, .inl rfl⟩, (grown_below HB5.out _).trans hg6⟩
    · have HOLD : Hid (decide ((gd L k).2 = u.old) = false) := Lib.hid (decide_eq_false ho)
      rw [if_pos ho] at hMV
      subst hMV
      clear ho
      go_enter Tryd.func65, Tryd.ntmps65
      go_wp2_with (first
        | (go_at_call 57; go_must (refine (HNM.out _).mono ?_); rintro e w1 ⟨rfl, hb1⟩; have HB1 := Lib.hid (HB.out.trans (hb1.mono HB.out.size)); have HR1 := Lib.hid (HR.out.below hb1); have c1b := HC1.out _ HR1.out; clear hb1)
        | (go_at_call 20; go_must (refine (HFD.out _ (HO.out.below HB1.out)).mono ?_); rintro e w2 ⟨rfl, hb2⟩; have HB2 := Lib.hid (HB1.out.trans (hb2.mono HB1.out.size)); have HR2 := Lib.hid (HR1.out.below hb2); clear hb2)
        | ((with_reducible show wpList _ _ _ (⟨some 8, _, _, _, _, _⟩ :: _) _ _); go_must (refine alloc_id rfl rfl ?_); intro w3 hid3 hb3 hs3; have HI3 := Lib.hid hid3; have HB3 := Lib.hid (HB2.out.trans (hb3.mono HB2.out.size)); have HR3 := Lib.hid (HR2.out.below hb3); have HG3 := Lib.hid HR2.out.lt; generalize w2.heap.size = g8 at hid3 hs3 HI3 HG3 ⊢; clear hid3 hb3 hs3)
        | ((with_reducible show wpList _ _ _ (⟨some 25, _, _, _, _, _⟩ :: _) _ _); go_must (refine wl_load rfl _ rfl _ _ (gd L k).2 HXI.out rfl (rn_id0 (HO.out.below HB3.out).atG HKN.out) ?_))
        | ((with_reducible show wpList _ _ _ (⟨_, Op.store _ (.tmp 8) _, _, _, _, _⟩ :: _) _ _); go_must (refine store_id rfl _ _ rfl _ _ (gd L k).2 rfl rfl HI3.out HXI.out ?_); intro w4 hid4 hg4 hs4; have HB4 := Lib.hid (HB3.out.grown hg4 HB3.out.size (fun q hq => by cases hq; exact Nat.le_of_lt HG3.out)); have HI4 := Lib.hid hid4; have HR4 := Lib.hid (HR3.out.grown hg4 (ne_lt HG3.out)); clear hid4 hg4 hs4)
        | ((with_reducible show wpList _ _ _ (⟨some 36, _, _, _, _, _⟩ :: _) _ _); go_must (refine wl_load rfl _ rfl _ _ (gd L k).2 HXI.out rfl HI4.out.range ?_))
        | ((with_reducible show wpList _ _ _ (⟨some 38, _, _, _, _, _⟩ :: _) _ _); go_must (refine wl_load rfl _ rfl _ _ u.old HUO.out.2.1 rfl (HC2.out _ HR4.out) ?_))
        | ((with_reducible show wpList _ _ _ (⟨some 39, _, _, _, _, _⟩ :: _) _ _); go_must (refine wl_ex rfl (exec_neqId _ _ _ rfl (gd L k).2 u.old HXI.out HUO.out.2.1 rfl rfl) ?_); rw [HOLD.out]))
      go_ret2
      exact ⟨none, 0, 0, rfl, fun h => absurd h (by decide), grown_below HB4.out _⟩
#print axioms own_setId
#print axioms move_any
end Go.Proofs.YtejooogfnnidcaaDoor
