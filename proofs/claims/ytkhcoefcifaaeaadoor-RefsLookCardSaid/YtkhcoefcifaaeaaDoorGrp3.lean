/-
  Merged: OrdCmp, IdList.
-/
import Derived.Test.YtkhcoefcifaaeaaDoorGrp1
import Derived.Test.YtkhcoefcifaaeaaDoorOrdMath
import Derived.Lib.Bytealg
import Derived.Lib.BytesEntry
import Derived.Deep.QuietTactic
import Derived.BigQuiet
import Derived.WalkSmall
import Derived.Still
import Derived.Tactics
import Derived.StillTailTactics
namespace Go.Proofs.YtkhcoefcifaaeaaDoor
open Go.RowKit

theorem retZ {a b : Int} (h : a = b) : Ending.returned (.int .i64 a) = .returned (.int .i64 b) := by rw [h]

theorem compareBytes_eq : ∀ a b : List UInt8, Lib.compareBytes a b = cmpF a b
  | [], [] => rfl
  | [], _ :: _ => rfl
  | _ :: _, [] => rfl
  | x :: a, y :: b => by
    unfold Lib.compareBytes cmpF
    rw [compareBytes_eq a b]
    simp only [UInt8.lt_iff_toNat_lt]

/-- What the entry reads off a slice of bytes. -/
theorem run_bytesOf {w : World} {a : Option Addr} {n c : Nat} {l : List UInt8} (h : Bytes w a n c l) :
    (Extern.Bytes.bytesOf (.slice a n c)).run Tryd.prog w = .ok (strB l) w := by
  obtain ⟨h1, h2, h3, h4⟩ := h
  rcases h4 with ⟨rfl, rfl⟩ | ⟨b, off, rfl, hc⟩
  · have : l = [] := List.length_eq_zero_iff.1 h1
    subst this
    cases a with
    | none => rfl
    | some ad => rfl
  · have hl := Lib.run_loadBytesX (P := Tryd.prog) w (l.map fun x => (x.toNat : Int)) ⟨b, off, none⟩ .empty (fun j x hj => by
      rw [List.getElem?_map] at hj
      have hjl : j < l.length := by
        rcases Nat.lt_or_ge j l.length with h | h
        · exact h
        · rw [List.getElem?_eq_none h] at hj; cases hj
      simp only [List.getElem?_eq_getElem hjl, Option.map_some, Option.some.injEq] at hj
      subst hj
      rw [Addr.add_lit, hc j (by omega)]
      simp [hjl])
    rw [List.length_map, h1] at hl
    show (Extern.Bytes.loadBytes ⟨b, off, none⟩ n .empty).run Tryd.prog w = _
    rw [hl]
    congr 1
    apply ByteArray.ext
    show (#[] : Array UInt8) ++ _ = _
    simp [Lib.bytesOf, strB, Function.comp_def]

theorem run_cmp {w : World} {a : Option Addr} {n c : Nat} {l : List UInt8} {b : Option Addr} {m d : Nat} {k : List UInt8} (h : Bytes w a n c l) (h' : Bytes w b m d k) :
    (Extern.BytealgCompare.compare #[.slice a n c, .slice b m d]).run Tryd.prog w = .ok (.int .i64 (cmpF l k)) w := by
  change Sem.run Tryd.prog (do pure (goInt (Extern.BytealgCompare.cmp (← Extern.Bytes.bytesOf (.slice a n c)) (← Extern.Bytes.bytesOf (.slice b m d))))) w = _
  simp only [Sem.run_bind, run_bytesOf h, run_bytesOf h', Result.andThen_ok, Sem.run_pure]
  rw [Lib.cmp_eq, compareBytes_eq, strB_list, strB_list]
  rfl

set_option maxRecDepth 100000 in
set_option maxHeartbeats 400000 in
theorem bcompare_any (a : Option Addr) (n c : Nat) (l : List UInt8) (b : Option Addr) (m d : Nat) (k : List UInt8) (w : World) (h : Bytes w a n c l) (h' : Bytes w b m d k) :
    Calls Tryd.prog 63 #[.slice a n c, .slice b m d] w fun e w' => e = .returned (.int .i64 (cmpF l k)) ∧ w = w' := by
  have H := Lib.hid (run_cmp h h')
  clear h h'
  go_enter Tryd.func63, Tryd.ntmps63
  go_wp2
  rw [run_callFunc_extern Tryd.func73 (by kernel_rfl) (by kernel_rfl) (by kernel_rfl) (e := Extern.BytealgCompare.compare) (by kernel_rfl), H.out]
  simp only [Result.andThen]
  rw [Oper.upon_value]
  go_wp2
  go_ret
  exact ⟨rfl, rfl⟩
#print axioms bcompare_any

/-- Two ids. -/
def CmpIs (l k : List UInt8) (w : World) (e : Ending) (w' : World) : Prop := e = .returned (.int .i64 (cmpF l k)) ∧ Below w.heap.size w w'

theorem IdAt.bytes {w : World} {g : Nat} {l : List UInt8} (h : IdAt w g l) : Bytes w (some ⟨g, 0, none⟩) 32 32 l :=
  ⟨h.1, Nat.le_refl _, by omega, .inr ⟨g, 0, rfl, fun j hj => by rw [Nat.zero_add, h.cell j hj]; rfl⟩⟩

set_option maxRecDepth 100000 in
set_option maxHeartbeats 400000 in
theorem compare_any (l k : List UInt8) (w : World) (hl : l.length = 32) (hk : k.length = 32) :
    Calls Tryd.prog 53 #[.agg (idCells l), .agg (idCells k)] w (CmpIs l k w) := by
  have hA : IdAt ((w.alloc (.cells (idCells l) 24)).alloc (.cells (idCells k) 24)) w.heap.size l :=
    ⟨hl, by rw [heap_alloc_old (h := by simp), heap_alloc_new]⟩
  have hB : IdAt ((w.alloc (.cells (idCells l) 24)).alloc (.cells (idCells k) 24)) (w.heap.size + 1) k :=
    ⟨hk, by have := heap_alloc_new (w.alloc (.cells (idCells l) 24)) (.cells (idCells k) 24); simpa using this⟩
  have HA := Lib.hid hA.bytes
  have HB := Lib.hid hB.bytes
  clear hA hB hl hk
  go_enter Tryd.func53, Tryd.ntmps53
  go_wp2
  go_quiet ((go_at_call 63; exact Calls.quiet_of_same ((bcompare_any _ _ _ _ _ _ _ _ _ (HA.out.below (Go.below_drewN (Below.refl _ _) _)) (HB.out.below (Go.below_drewN (Below.refl _ _) _))).mono fun e w' ⟨h1, h2⟩ => ⟨h1, h2.symm⟩)))
  go_wp2
  go_ret
  exact ⟨rfl, Go.below_drewN ((((Below.refl _ _).alloc (Nat.le_refl _) _).alloc (by simp) _)) _⟩
#print axioms compare_any
end Go.Proofs.YtkhcoefcifaaeaaDoor

namespace Go.Proofs.YtkhcoefcifaaeaaDoor
open Go.RowKit

/-- Ids, one behind the other, as cells. -/
def flat (L : List (List UInt8)) : List Value := L.flatMap (·.map B)
/-- Each has its 32 bytes. -/
def W32 (L : List (List UInt8)) : Prop := ∀ x ∈ L, x.length = 32

theorem flat_length {L : List (List UInt8)} (h : W32 L) : (flat L).length = L.length * 32 := by
  induction L with
  | nil => rfl
  | cons x L ih =>
    have := h x (by simp)
    have := ih (fun y hy => h y (by simp [hy]))
    simp only [flat, List.flatMap_cons, List.length_append, List.length_map, List.length_cons] at this ⊢
    omega
theorem flat_append (L M : List (List UInt8)) : flat (L ++ M) = flat L ++ flat M := by simp [flat]
theorem flat_one (u : List (List UInt8)) : ∀ v ∈ flat u, v.oneCell' = true := by
  intro v hv
  obtain ⟨x, _, hx⟩ := List.mem_flatMap.1 hv
  obtain ⟨b, _, rfl⟩ := List.mem_map.1 hx
  rfl

/-- The cells of the id at a place. -/
theorem flat_at {L : List (List UInt8)} (h : W32 L) (i : Nat) (hi : i < L.length) : ((flat L).drop (i * 32)).take 32 = (L.getD i []).map B := by
  induction L generalizing i with
  | nil => simp at hi
  | cons x L ih =>
    have hx := h x (by simp)
    have hL : W32 L := fun y hy => h y (by simp [hy])
    have e : flat (x :: L) = x.map B ++ flat L := rfl
    cases i with
    | zero =>
      rw [e, Nat.zero_mul, List.drop_zero, List.take_append_of_le_length (by simp [hx]), List.take_of_length_le (by simp [hx])]
      rfl
    | succ i =>
      have hl : (x.map B).length = 32 := by simp [hx]
      rw [e, show (i + 1) * 32 = (x.map B).length + i * 32 from by omega, List.drop_append]
      rw [List.drop_eq_nil_of_le (by omega), List.nil_append, show (x.map B).length + i * 32 - (x.map B).length = i * 32 from by omega]
      exact ih hL i (by simpa using hi)

theorem getD_32 {L : List (List UInt8)} (h : W32 L) {i : Nat} (hi : i < L.length) : (L.getD i []).length = 32 := by
  have : L.getD i [] = L[i] := by simp [hi]
  rw [this]
  exact h _ (List.getElem_mem hi)

/-- A slice value reads as these ids. -/
def IdsAt (w : World) (a : Option Addr) (n c : Nat) (L : List (List UInt8)) : Prop :=
  L.length = n ∧ n ≤ c ∧ c ≤ 9223372036854775807 ∧ W32 L ∧ ((n = 0 ∧ c = 0) ∨ ∃ b off, a = some ⟨b, off, none⟩ ∧ w.rangeAt b off (flat L))

theorem IdsAt.nil (w : World) : IdsAt w none 0 0 [] := ⟨rfl, Nat.le_refl _, by omega, (fun _ h => by cases h), .inl ⟨rfl, rfl⟩⟩

theorem rangeAt_below {w w' : World} {b off : Nat} {cs : List Value} (h : w.rangeAt b off cs) (hb : Below w.heap.size w w') : w'.rangeAt b off cs := fun j v hv =>
  (hb.cell (World.block_lt_of_cell? _ _ (h j v hv))).trans (h j v hv)

theorem IdsAt.below {w w' : World} {a : Option Addr} {n c : Nat} {L : List (List UInt8)} (h : IdsAt w a n c L) (hb : Below w.heap.size w w') : IdsAt w' a n c L := by
  obtain ⟨h1, h2, h3, h5, h4⟩ := h
  refine ⟨h1, h2, h3, h5, ?_⟩
  rcases h4 with h4 | ⟨b, off, ha, hc⟩
  · exact .inl h4
  · exact .inr ⟨b, off, ha, rangeAt_below hc hb⟩

theorem IdsAt.some_ {w : World} {a : Option Addr} {n c : Nat} {L : List (List UInt8)} (h : IdsAt w a n c L) (hn : 0 < n) : ∃ b off, a = some ⟨b, off, none⟩ := by
  rcases h.2.2.2.2 with ⟨h0, _⟩ | ⟨b, off, ha, _⟩
  · omega
  · exact ⟨b, off, ha⟩

/-- The id at a place. -/
theorem IdsAt.at_ {w : World} {b off n c : Nat} {L : List (List UInt8)} (h : IdsAt w (some ⟨b, off, none⟩) n c L) (i : Nat) (hi : i < n) : w.rangeAt b (off + i * 32) ((L.getD i []).map B) := by
  obtain ⟨h1, h2, h3, h5, h4⟩ := h
  rcases h4 with ⟨h0, _⟩ | ⟨b', off', ha, hc⟩
  · omega
  · simp only [Option.some.injEq, Addr.mk.injEq, and_true] at ha
    obtain ⟨rfl, rfl⟩ := ha
    intro j v hj
    have hj32 : j < 32 := by
      have := (List.getElem?_eq_some_iff.1 hj).1
      rw [List.length_map, getD_32 h5 (by omega)] at this
      exact this
    rw [← flat_at h5 i (by omega), List.getElem?_take, if_pos hj32, List.getElem?_drop] at hj
    have := hc (i * 32 + j) v hj
    rw [Nat.add_assoc]
    exact this

/-- A value that owns these ids, in memory from a block on. -/
def OwnI (w : World) (base : Nat) (v : Value) (L : List (List UInt8)) : Prop := w.ownsRow base 24 32 v L.length (flat L) ∧ W32 L

theorem OwnI.nil (w : World) (base : Nat) : OwnI w base (.slice none 0 0) [] := ⟨World.ownsRow_nil _ _ _ _, (fun _ h => by cases h)⟩

theorem OwnI.ids {w : World} {base : Nat} {v : Value} {L : List (List UInt8)} (h : OwnI w base v L) : ∃ a c, v = .slice a L.length c ∧ IdsAt w a L.length c L := by
  obtain ⟨h0, h5⟩ := h
  have h0' := h0
  obtain ⟨h1, h2⟩ := h0
  rcases h2 with ⟨rfl, hn⟩ | ⟨g, cap, cur, rfl, hb, hg, hn, hm, hs, ht⟩
  · have : L = [] := List.length_eq_zero_iff.1 hn
    subst this
    exact ⟨none, 0, rfl, IdsAt.nil w⟩
  · refine ⟨_, _, rfl, rfl, hn, by unfold maxLen at hm; omega, h5, .inr ⟨g, 0, rfl, fun j v hv => ?_⟩⟩
    have := h0'.cells (g := g) rfl j v hv
    rw [Addr.add_lit] at this
    exact this

theorem OwnI.lt {w : World} {base : Nat} {v : Value} {L : List (List UInt8)} (h : OwnI w base v L) : ∀ k, v.ownBlock = some k → base ≤ k ∧ k < w.heap.size := fun k hk => World.ownsRow.lt h.1 k hk
theorem OwnI.alloc {w : World} {base : Nat} {v : Value} {L : List (List UInt8)} (h : OwnI w base v L) (o : Obj) : OwnI (w.alloc o) base v L := ⟨World.ownsRow.alloc h.1 o, h.2⟩
theorem OwnI.mono {w : World} {base base' : Nat} {v : Value} {L : List (List UInt8)} (h : OwnI w base v L) (hb : base' ≤ base) : OwnI w base' v L := by
  obtain ⟨⟨h1, h2⟩, h3⟩ := h
  refine ⟨⟨h1, ?_⟩, h3⟩
  rcases h2 with h2 | ⟨g, cap, cur, hv, hg, r⟩
  · exact .inl h2
  · exact .inr ⟨g, cap, cur, hv, by omega, r⟩
theorem OwnI.below {w w' : World} {base : Nat} {v : Value} {L : List (List UInt8)} (h : OwnI w base v L) (hb : Below w.heap.size w w') : OwnI w' base v L := by
  obtain ⟨⟨h1, h2⟩, h3⟩ := h
  refine ⟨⟨h1, ?_⟩, h3⟩
  rcases h2 with h2 | ⟨g, cap, cur, hv, hg, hh, r⟩
  · exact .inl h2
  · refine .inr ⟨g, cap, cur, hv, hg, ?_, r⟩
    have hlt : g < w.heap.size := by
      rcases Nat.lt_or_ge g w.heap.size with h | h
      · exact h
      · rw [Array.getElem?_eq_none h] at hh; cases hh
    rw [hb.block g hlt]; exact hh

/-- What is made anew: a value that owns these ids; what was there stands. -/
def MadeI (w : World) (L : List (List UInt8)) (e : Ending) (w' : World) : Prop := ∃ a n c, e = .returned (.slice a n c) ∧ OwnI w' w.heap.size (.slice a n c) L ∧ Below w.heap.size w w'
theorem MadeI.of {w w' : World} {L : List (List UInt8)} {v : Value} (h : OwnI w' w.heap.size v L) (hb : Below w.heap.size w w') : MadeI w L (.returned v) w' := by
  obtain ⟨a, c, rfl, _⟩ := h.ids
  exact ⟨a, _, c, rfl, h, hb⟩
theorem OwnI.isIds {w : World} {base : Nat} {a : Option Addr} {n c : Nat} {L : List (List UInt8)} (h : OwnI w base (.slice a n c) L) : IdsAt w a n c L := by
  obtain ⟨a', c', hv, hb⟩ := h.ids
  simp only [Value.slice.injEq] at hv
  obtain ⟨rfl, rfl, rfl⟩ := hv
  exact hb

theorem Tryd.infoI24 : (Tryd.prog.info? 24).map (fun i => (i.zero, i.size, i.bytes)) = some (some (.agg (idCells idZero)), 32, 32) := by kernel_rfl

/-- 'append(dst, src...)': dst is the call's own, src any slice of ids that can be read. -/
theorem app_ids {w : World} {ops : Array Oper} {rest : List Oper} {o : Oper} {a : Act} {Q : Exit → Act → World → Prop} (hgd : o.guard = none) (s x : Operand)
    (ho : o.op = .call { callee := .builtin .append, args := #[s, x], argTypes := #[39, 39] })
    (base : Nat) (v : Value) (l : List (List UInt8)) (hs : a.eval s = v) (hown : OwnI w base v l)
    (sa : Option Addr) (m c : Nat) (src : List (List UInt8)) (hx : a.eval x = .slice sa m c) (hsrc : IdsAt w sa m c src)
    (h48 : (l.length + m) * 32 ≤ 140737488355328) (hbase : base ≤ w.heap.size)
    (h : ∀ v' w', OwnI w' base v' (l ++ src) → w.grownBy w' v.ownBlock → wpList Tryd.prog ops Q rest (a.put o.dst v') w') : wpList Tryd.prog ops Q (o :: rest) a w := by
  obtain ⟨i0, hi, hz0, hz1, hz2⟩ := info_parts Tryd.infoI24
  obtain ⟨h1, h2, h3, h5, h4⟩ := hsrc
  have hW : W32 (l ++ src) := fun y hy => by
    rcases List.mem_append.1 hy with h | h
    · exact hown.2 y h
    · exact h5 y h
  rcases h4 with ⟨rfl, rfl⟩ | ⟨b, off, rfl, hc⟩
  · have : src = [] := List.length_eq_zero_iff.1 h1
    subst this
    cases sa with
    | none =>
      refine wpList_append_own_none hgd s x 39 ho base 24 i0 32 Tryd.underlying39 hi v l.length (flat l) hs hown.1 hx ?_
      exact h v w (by rw [List.append_nil]; exact hown) ⟨rfl, rfl, rfl, Nat.le_refl _, fun _ _ _ => rfl⟩
    | some ad =>
      refine wpList_append_own w hgd s x 39 ho base 24 i0 (.agg (idCells idZero)) 32 32 Tryd.underlying39 hi hz0 hz1 hz2 rfl (by decide) v l.length (flat l) hs hown.1
        ad 0 0 [] hx (by simp) (by simp) (by simp) (by unfold maxLen; omega) (by omega) hbase ?_
      intro v' w' h5 h6 _
      exact h v' w' (by rw [List.append_nil]; exact ⟨by simpa using h5, hown.2⟩) h6
  · refine wpList_append_own w hgd s x 39 ho base 24 i0 (.agg (idCells idZero)) 32 32 Tryd.underlying39 hi hz0 hz1 hz2 rfl (by decide) v l.length (flat l) hs hown.1
      ⟨b, off, none⟩ m c (flat src) hx (by rw [flat_length h5, h1]) ?_ (flat_one src) (by unfold maxLen; omega) (by omega) hbase ?_
    · intro j u hu
      rw [Addr.add_lit]
      exact hc j u hu
    · intro v' w' h5' h6 _
      refine h v' w' ⟨?_, hW⟩ h6
      rw [List.length_append, flat_append, h1]
      exact h5'

/-- Which of two ids is the other. -/
theorem run_items (w : World) (d : Nat) (l k : List UInt8) (hlk : l.length = k.length) : ∀ is : List Nat, (∀ i ∈ is, i < l.length) →
    (Op.eqItems (d + 1) 5 1 (idCells l) (idCells k) is).run Tryd.prog w = .ok (is.all fun i => l.getD i 0 == k.getD i 0) w
  | [], _ => by simp [Op.eqItems]
  | i :: is, h => by
    have hi : i < l.length := h i (by simp)
    have hp : ∀ m : List UInt8, i < m.length → (part 5 (idCells m) (i * 1)).run Tryd.prog w = .ok (B (m.getD i 0)) w := fun m hm => by
      have hagg : (isAgg 5).run Tryd.prog w = .ok false w := by kernel_rfl
      have hget : (idCells m)[i]? = some (B (m.getD i 0)) := by unfold idCells; simp [hm]
      simp [part, hagg, hget]
    have he : (Op.equalIn (d + 1) 5 (B (l.getD i 0)) (B (k.getD i 0))).run Tryd.prog w = .ok (l.getD i 0 == k.getD i 0) w := by
      have e : ((l.getD i 0).toNat == (k.getD i 0).toNat) = (l.getD i 0 == k.getD i 0) := by
        rw [Bool.eq_iff_iff, beq_iff_eq, beq_iff_eq, UInt8.toNat_inj]
      rw [← e]
      simp [Op.equalIn, run_underlying Tryd.underlying5, B]
      rw [Bool.eq_iff_iff, beq_iff_eq, beq_iff_eq]
      omega
    simp only [Op.eqItems, Sem.run_bind, hp l hi, hp k (by omega), he, Result.andThen_ok]
    by_cases hc : (l.getD i 0 == k.getD i 0) = true
    · rw [hc]
      simp only [Bool.not_true, Bool.false_eq_true, if_false, List.all_cons, hc, Bool.true_and]
      exact run_items w d l k hlk is (fun j hj => h j (by simp [hj]))
    · have hc' : (l.getD i 0 == k.getD i 0) = false := by simpa using hc
      rw [hc']
      simp only [Bool.not_false, if_true, List.all_cons, hc', Bool.false_and, Sem.run_pure]

set_option maxRecDepth 100000 in
theorem run_eqIds (w : World) {l k : List UInt8} (h : l.length = 32) (hk : k.length = 32) : (Op.equalIn 10000 24 (.agg (idCells l)) (.agg (idCells k))).run Tryd.prog w = .ok (decide (l = k)) w := by
  obtain ⟨i0, hi, _⟩ := info_parts Tryd.info5
  have hc : Tryd.prog.cellsOf 5 = 1 := by kernel_rfl
  rw [show (10000 : Nat) = 9999 + 1 from rfl, run_equalIn_array w 9999 (idCells l) (idCells k) Tryd.underlying24 hi, hc, show (9999 : Nat) = 9998 + 1 from rfl]
  rw [run_items w 9998 l k (by omega) (List.range 32) (fun i hi => by rw [h]; simpa using hi)]
  congr 1
  rw [Bool.eq_iff_iff, decide_eq_true_iff, List.all_eq_true]
  constructor
  · intro hall
    apply List.ext_getElem (by omega)
    intro i hi1 hi2
    have := hall i (by simp; omega)
    rw [beq_iff_eq] at this
    simpa [hi1, hi2] using this
  · rintro rfl i _
    simp
#print axioms run_eqIds
end Go.Proofs.YtkhcoefcifaaeaaDoor
