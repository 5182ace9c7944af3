/-
  Merged: Tell, Row, RfHold.
-/
import Derived.Test.YtfoalaoanpbmeaaDoorBytes
import Derived.Test.YtfoalaoanpbmeaaDoorProg
import Derived.WalkKit
import Derived.WalkSpells
import Derived.Lib.Hide
import Derived.Deep.MidRow
import Derived.Test.YtfoalaoanpbmeaaDoorSliceG
namespace Go.Proofs.YtfoalaoanpbmeaaDoor
open Go.RowKit

/-- The one lies in no block of the other. -/
def Apart (u v : Value) : Prop := ∀ k, u.ownBlock = some k → v.ownBlock ≠ some k

/-- A value lies where the elder did, or in a block that is new. -/
def Told (w : World) (v v' : Value) : Prop := v'.ownBlock = v.ownBlock ∨ ∃ k, v'.ownBlock = some k ∧ w.heap.size ≤ k

theorem Apart.symm {u v : Value} (h : Apart u v) : Apart v u := fun k hk hu => h k hu hk

theorem Apart.told {w : World} {u v v' : Value} (h : Apart u v) (ht : Told w v v') (hlt : ∀ k, u.ownBlock = some k → k < w.heap.size) : Apart u v' := by
  intro k hk hv
  rcases ht with e | ⟨m, hm, hle⟩
  · rw [e] at hv; exact h k hk hv
  · rw [hm] at hv
    have := hlt k hk
    cases hv
    omega

theorem Apart.kept {u v : Value} (h : Apart u v) : u.ownBlock = none ∨ u.ownBlock ≠ v.ownBlock := by
  cases hu : u.ownBlock with
  | none => exact .inl rfl
  | some k => exact .inr (fun e => h k hu e.symm)

section
variable {P : Program} (w : World)
theorem run_append_tell (base : Nat) (t ty e : TypeId) (i : TypeInfo) (z : Value) (size bytes : Nat) (ht : P.underlying t = some (.slice e)) (hi : P.info? e = some i) (hz : i.zero = some z)
    (hsize : i.size = size) (hby : i.bytes = bytes) (hzs : z.cells.size = size) (hsz : 0 < size)
    (v : Value) (n : Nat) (xs : List Value) (hown : w.ownsRow base e size v n xs)
    (a : Addr) (m c : Nat) (news : List Value) (hl : news.length = m * size) (hnews : ∀ j u, news[j]? = some u → w.cell? (a.add j) = some u) (h1 : ∀ u ∈ news, u.oneCell' = true)
    (h63 : n + m ≤ maxLen) (hbytes : (n + m) * bytes ≤ 140737488355328) (hbase : base ≤ w.heap.size) :
    ∃ v' w', (Builtin.append_ #[t, t] ty #[v, .slice (some a) m c]).run P w = .ok v' w' ∧ w'.ownsRow base e size v' (n + m) (xs ++ news) ∧ w.grownBy w' v.ownBlock ∧ Told w v v' := by
  obtain ⟨v', w', hr, ho, hg, hz2⟩ := run_append_own w base t ty e i z size bytes ht hi hz hsize hby hzs hsz v n xs hown a m c news hl hnews h1 h63 hbytes hbase
  refine ⟨v', w', hr, ho, hg, ?_⟩
  have hown0 := hown
  rcases hown.2 with ⟨rfl, rfl⟩ | ⟨g, cap, cur, rfl, hbg, hgg, hnc, hcm, hcs, htake⟩
  · obtain ⟨v2, w2, hr2, ho2, _⟩ := run_append_own w w.heap.size t ty e i z size bytes ht hi hz hsize hby hzs hsz _ 0 xs ⟨hown.1, .inl ⟨rfl, rfl⟩⟩ a m c news hl hnews h1 h63 hbytes (Nat.le_refl _)
    rw [hr] at hr2
    cases hr2
    cases hv : v'.ownBlock with
    | none => exact .inl (hv.trans rfl)
    | some k => exact .inr ⟨k, hv, (World.ownsRow.lt ho2 k hv).1⟩
  · subst hsize
    subst hby
    by_cases hroom : n + m ≤ cap
    · have hfit : n * i.size + news.length ≤ cur.size := by rw [hl, hcs, ← Nat.add_mul]; exact Nat.mul_le_mul_right _ hroom
      have hr2 := run_append_room (P := P) w t ty e i ht hi g n cap cur hgg a m c news hl hnews h1 hroom hfit
      rw [hr] at hr2
      cases hr2
      exact .inl rfl
    · have holds : ∀ j u, xs[j]? = some u → w.cell? ((⟨g, 0, none⟩ : Addr).add j) = some u := hown0.cells (g := g) rfl
      have hr2 := run_append_grow (P := P) w t ty e i z ht hi hz ⟨g, 0, none⟩ n cap xs hown0.1 holds a m c news hl hnews (by omega) (by simp only [maxLen] at h63; omega) (growslice_fits (by omega) hbytes)
      rw [hr] at hr2
      cases hr2
      exact .inr ⟨_, rfl, Nat.le_refl _⟩
end

/-- 'append(dst, src...)' of bytes, told. -/
theorem app_bytes_told {w : World} {ops : Array Oper} {rest : List Oper} {o : Oper} {a : Act} {Q : Exit → Act → World → Prop} (hgd : o.guard = none) (s x : Operand)
    (ho : o.op = .call { callee := .builtin .append, args := #[s, x], argTypes := #[52, 52] })
    (base : Nat) (v : Value) (l : List UInt8) (hs : a.eval s = v) (hown : Own w base v l)
    (sa : Option Addr) (m c : Nat) (src : List UInt8) (hx : a.eval x = .slice sa m c) (hsrc : Bytes w sa m c src)
    (h48 : l.length + m ≤ 140737488355328) (hbase : base ≤ w.heap.size)
    (h : ∀ v' w', Own w' base v' (l ++ src) → w.grownBy w' v.ownBlock → Told w v v' → wpList Tryd.prog ops Q rest (a.put o.dst v') w') : wpList Tryd.prog ops Q (o :: rest) a w := by
  obtain ⟨i0, hi, hz0, hz1, hz2⟩ := info_parts Tryd.info5
  obtain ⟨h1, h2, h3, h4⟩ := hsrc
  have main : ∀ ad : Addr, sa = some ad → (∀ j u, (src.map B)[j]? = some u → w.cell? (ad.add j) = some u) → wpList Tryd.prog ops Q (o :: rest) a w := by
    intro ad hsa hnews
    subst hsa
    obtain ⟨v', w', hr, h5, h6, h7⟩ := run_append_tell (P := Tryd.prog) w base 52 o.type 5 i0 (.int .u8 0) 1 1 Tryd.underlying52 hi hz0 hz1 hz2 rfl (by decide) v l.length (l.map B) hown
      ad m c (src.map B) (by simp [h1]) hnews (fun u hu => by obtain ⟨x, _, rfl⟩ := List.mem_map.1 hu; rfl) (by unfold maxLen; omega) (by omega) hbase
    refine Lib.wpList_append_run w hgd s x 52 52 ho _ _ hs hx _ _ hr (h v' w' ?_ h6 h7)
    unfold Own
    rw [List.length_append, List.map_append, h1]
    exact h5
  rcases h4 with ⟨rfl, rfl⟩ | ⟨b, off, rfl, hc⟩
  · have : src = [] := List.length_eq_zero_iff.1 h1
    subst this
    cases sa with
    | none =>
      refine wpList_append_own_none hgd s x 52 ho base 5 i0 1 Tryd.underlying52 hi v l.length (l.map B) hs hown hx ?_
      exact h v w (by rw [List.append_nil]; exact hown) ⟨rfl, rfl, rfl, Nat.le_refl _, fun _ _ _ => rfl⟩ (.inl rfl)
    | some ad => exact main ad rfl (fun j u hu => by simp at hu)
  · refine main _ rfl (fun j u hu => ?_)
    rw [List.getElem?_map] at hu
    have hj : j < src.length := by
      rcases Nat.lt_or_ge j src.length with h | h
      · exact h
      · rw [List.getElem?_eq_none h] at hu; cases hu
    have := hc j (by omega)
    simp only [List.getElem?_eq_getElem hj, Option.map_some, Option.some.injEq] at hu
    subst hu
    rw [Addr.add_lit]
    simpa [B, hj] using this
#print axioms app_bytes_told
end Go.Proofs.YtfoalaoanpbmeaaDoor

namespace Go.Proofs.YtfoalaoanpbmeaaDoor
open Go.RowKit

/-- Block g holds these cells. -/
def RowAt (w : World) (g : Nat) (t : TypeId) (cs : List Value) : Prop := w.heap[g]? = some (.cells cs.toArray t (0, 0))

theorem wpList_ok {P : Program} {w w' : World} {ops : Array Oper} {rest : List Oper} {o : Oper} {a : Act} {Q : Exit → Act → World → Prop} {v : Value} (hgd : o.guard = none)
    (hr : (execOp a.eval o).run P w = .ok (.value v) w') (h : wpList P ops Q rest (a.put o.dst v) w') : wpList P ops Q (o :: rest) a w :=
  wpList_plain hgd fun K hK => by unfold Oper.wp; rw [hr]; exact hK _ _ h

theorem wpList_skip {P : Program} {w w' : World} {ops : Array Oper} {rest : List Oper} {o : Oper} {a : Act} {Q : Exit → Act → World → Prop} (hgd : o.guard = none)
    (hr : (execOp a.eval o).run P w = .ok .skip w') (h : wpList P ops Q rest (a.put o.dst undef) w') : wpList P ops Q (o :: rest) a w :=
  wpList_plain hgd fun K hK => by unfold Oper.wp; rw [hr]; exact hK _ _ h

theorem RowAt.lt {w : World} {g : Nat} {t : TypeId} {cs : List Value} (h : RowAt w g t cs) : g < w.heap.size := by
  rcases Nat.lt_or_ge g w.heap.size with h' | h'
  · exact h'
  · unfold RowAt at h
    rw [Array.getElem?_eq_none h'] at h; cases h

theorem RowAt.cell {w : World} {g : Nat} {t : TypeId} {cs : List Value} (h : RowAt w g t cs) (j : Nat) {v : Value} (hj : cs[j]? = some v) : w.cell? ⟨g, j, none⟩ = some v := by
  rw [cell_of_row w g j cs.toArray t (0, 0) h]; simpa using hj

theorem RowAt.free {w : World} {g : Nat} {t : TypeId} {cs : List Value} (h : RowAt w g t cs) (j : Nat) : w.frozen? ⟨g, j, none⟩ = false := frozen_of_row w g j cs.toArray t h

theorem RowAt.set {w : World} {g : Nat} {t : TypeId} {cs : List Value} (h : RowAt w g t cs) (j : Nat) (v : Value) : RowAt (w.setCell ⟨g, j, none⟩ v) g t (cs.set j v) := by
  unfold RowAt
  rw [heap_setCell_same w g j cs.toArray t v h]
  simp

theorem RowAt.below {w w' : World} {g : Nat} {t : TypeId} {cs : List Value} (h : RowAt w g t cs) (hb : Below w.heap.size w w') : RowAt w' g t cs := by
  unfold RowAt; rw [hb.block g h.lt]; exact h

theorem RowAt.other {w : World} {g : Nat} {t : TypeId} {cs : List Value} (h : RowAt w g t cs) {a : Addr} (ha : g ≠ a.block) (v : Value) : RowAt (w.setCell a v) g t cs := by
  unfold RowAt; rw [heap_setCell_other w a g v ha]; exact h

theorem RowAt.grown {w w' : World} {g : Nat} {t : TypeId} {cs : List Value} {row : Option Nat} (h : RowAt w g t cs) (hg : w.grownBy w' row) (hr : some g ≠ row) : RowAt w' g t cs := by
  unfold RowAt; rw [hg.block g h.lt hr]; exact h

theorem RowAt.drew {w : World} {g : Nat} {t : TypeId} {cs : List Value} (h : RowAt w g t cs) : RowAt w.drew g t cs := h

/-- A new variable of a row's type. -/
theorem alloc_row {w : World} {ops : Array Oper} {rest : List Oper} {o : Oper} {a : Act} {Q : Exit → Act → World → Prop} (hgd : o.guard = none) (t : TypeId) (cs : List Value) (ho : o.op = .alloc t)
    (hz : ∀ w : World, (zeroValue t).run Tryd.prog w = .ok (.agg cs.toArray) w)
    (h : ∀ w1, RowAt w1 w.heap.size t cs → Below w.heap.size w w1 → w1.heap.size = w.heap.size + 1 → wpList Tryd.prog ops Q rest (a.put o.dst (.pointer (some ⟨w.heap.size, 0, none⟩))) w1) :
    wpList Tryd.prog ops Q (o :: rest) a w := by
  have hr : (Instr.alloc t true (.tuple #[])).run Tryd.prog w = .ok (.pointer (some ⟨w.heap.size, 0, none⟩)) (w.alloc (.cells cs.toArray t)) := by
    unfold Instr.alloc
    simp only [Sem.run_bind, hz w, Result.andThen_ok]
    rfl
  refine wpList_ok (w' := w.alloc (.cells cs.toArray t)) hgd ?_ (h _ (heap_alloc_new w _) ((Below.refl _ _).alloc (Nat.le_refl _) _) (by simp))
  unfold execOp
  simp only [ho, Sem.run_bind, hr, Result.andThen_ok, Sem.run_pure]

/-- A row that came by value, in a block of its own. -/
theorem box_row {w : World} {ops : Array Oper} {rest : List Oper} {o : Oper} {a : Act} {Q : Exit → Act → World → Prop} (hgd : o.guard = none) (t : TypeId) (x : Operand) (cs : List Value) (ho : o.op = .box t x)
    (hx : a.eval x = .agg cs.toArray)
    (h : ∀ w1, RowAt w1 w.heap.size t cs → Below w.heap.size w w1 → w1.heap.size = w.heap.size + 1 → wpList Tryd.prog ops Q rest (a.put o.dst (.pointer (some ⟨w.heap.size, 0, none⟩))) w1) :
    wpList Tryd.prog ops Q (o :: rest) a w := by
  have hr : (Instr.box t (.agg cs.toArray)).run Tryd.prog w = .ok (.pointer (some ⟨w.heap.size, 0, none⟩)) (w.alloc (.cells cs.toArray t)) := rfl
  refine wpList_ok (w' := w.alloc (.cells cs.toArray t)) hgd ?_ (h _ (heap_alloc_new w _) ((Below.refl _ _).alloc (Nat.le_refl _) _) (by simp))
  unfold execOp
  simp only [ho, hx, Sem.run_bind, hr, Result.andThen_ok, Sem.run_pure]

/-- A whole row is stored. -/
theorem store_row {w : World} {ops : Array Oper} {rest : List Oper} {o : Oper} {a : Act} {Q : Exit → Act → World → Prop} (hgd : o.guard = none) (ty : TypeId) (x y : Operand) (ho : o.op = .store ty x y)
    (g : Nat) (t : TypeId) (old cs : List Value) (hx : a.eval x = .pointer (some ⟨g, 0, none⟩)) (hy : a.eval y = .agg cs.toArray) (hg : RowAt w g t old) (hl : old.length = cs.length)
    (hi : (Tryd.prog.info? ty).map (·.size) = some cs.length) (h1 : ∀ v ∈ cs, v.oneCell' = true)
    (h : ∀ w1, RowAt w1 g t cs → w.grownBy w1 (some g) → w1.heap.size = w.heap.size → wpList Tryd.prog ops Q rest (a.put o.dst undef) w1) :
    wpList Tryd.prog ops Q (o :: rest) a w := by
  have hs := run_storeVar_row (P := Tryd.prog) w g t ty old.toArray cs.toArray hg (by simpa using hi) (by simpa using hl) (all_oneCell_toArray h1)
  refine wpList_skip (w' := w.setRow g cs.toArray) hgd ?_ (h _ (setRow_heap w g old.toArray cs.toArray t (0, 0) hg) ⟨rfl, rfl, rfl, by simp, fun k _ hk => setRow_other w g k _ (fun e => hk (by simp [e]))⟩ (by simp))
  unfold execOp
  simp only [ho, hx, hy, Instr.storeAt, Instr.sureAddr, Sem.run_bind, Sem.run_pure, Result.andThen_ok, hs]

theorem run_load_row {w : World} {ty : TypeId} {g : Nat} {t : TypeId} {cs : List Value} {d : TypeDesc} (hg : RowAt w g t cs) (hu : Tryd.prog.underlying ty = some d) (hd : d.isRow = true)
    (hi : (Tryd.prog.info? ty).map (·.size) = some cs.length) : (loadVar ty ⟨g, 0, none⟩).run Tryd.prog w = .ok (.agg cs.toArray) w :=
  run_loadVar_mid (P := Tryd.prog) w g 0 ty cs d (fun j v hj => by rw [Nat.zero_add]; exact hg.cell j hj) hu hd hi

/-- A whole row is loaded. -/
theorem load_row {w : World} {ops : Array Oper} {rest : List Oper} {o : Oper} {a : Act} {Q : Exit → Act → World → Prop} (hgd : o.guard = none) (ty : TypeId) (x : Operand) (ho : o.op = .load ty x)
    (g : Nat) (t : TypeId) (cs : List Value) (d : TypeDesc) (hx : a.eval x = .pointer (some ⟨g, 0, none⟩)) (hg : RowAt w g t cs) (hu : Tryd.prog.underlying ty = some d) (hd : d.isRow = true)
    (hi : (Tryd.prog.info? ty).map (·.size) = some cs.length)
    (h : wpList Tryd.prog ops Q rest (a.put o.dst (.agg cs.toArray)) w) :
    wpList Tryd.prog ops Q (o :: rest) a w := by
  refine wpList_ok hgd ?_ h
  unfold execOp
  simp only [ho, hx, Instr.loadAt, Instr.sureAddr, Sem.run_bind, Sem.run_pure, Result.andThen_ok, run_load_row hg hu hd hi]

/-- Cells in the middle of a block, loaded as a row. -/
theorem load_part {w : World} {ops : Array Oper} {rest : List Oper} {o : Oper} {a : Act} {Q : Exit → Act → World → Prop} (hgd : o.guard = none) (ty : TypeId) (x : Operand) (ho : o.op = .load ty x)
    (b off : Nat) (cs : List Value) (d : TypeDesc) (hx : a.eval x = .pointer (some ⟨b, off, none⟩)) (hc : w.rangeAt b off cs) (hu : Tryd.prog.underlying ty = some d) (hd : d.isRow = true) (hi : (Tryd.prog.info? ty).map (·.size) = some cs.length)
    (h : wpList Tryd.prog ops Q rest (a.put o.dst (.agg cs.toArray)) w) :
    wpList Tryd.prog ops Q (o :: rest) a w := by
  have hr := run_loadVar_mid (P := Tryd.prog) w b off ty cs d hc hu hd hi
  refine wpList_ok hgd ?_ h
  unfold execOp
  simp only [ho, hx, Instr.loadAt, Instr.sureAddr, Sem.run_bind, Sem.run_pure, Result.andThen_ok, hr]

theorem RowAt.range {w : World} {g : Nat} {t : TypeId} {cs l m r : List Value} (h : RowAt w g t cs) (hcs : cs = l ++ (m ++ r)) : w.rangeAt g l.length m := fun j v hj => by
  refine h.cell _ ?_
  rw [hcs, List.getElem?_append_right (by omega), show l.length + j - l.length = j from by omega, List.getElem?_append_left (List.getElem?_eq_some_iff.1 hj).1]
  exact hj
/-- 'a[lo:]' of an array of one-cell elements behind a pointer. -/
theorem run_slice_from {ty e : TypeId} {N : Nat} (hu : Tryd.prog.underlying ty = some (.array N e)) (hs : ∀ W : World, (sizeOf e).run Tryd.prog W = .ok 1 W) (b off : Nat) (lo : Int) (k : Nat) (hk : lo = (k : Int)) (h : k < N) (W : World) :
    (Instr.sliceAt ty (.pointer (some ⟨b, off, none⟩)) (some (.int .i64 lo)) none none).run Tryd.prog W = .ok (.slice (some ⟨b, off + k, none⟩) (N - k) (N - k)) W := by
  subst hk
  have hl : Tryd.prog.arrayLen ty = N := by simp [Program.arrayLen, hu]
  have he : Tryd.prog.elem ty = e := by simp [Program.elem, hu]
  have h1 := run_sliceAt_array_l (P := Tryd.prog) W ty ⟨b, off, none⟩ (by rw [hl, he]; exact hu) .i64 (k : Int) (by omega) (by rw [hl]; omega)
  rw [h1, he, hs W, hl]
  have hne : ¬ N = k := by omega
  simp [Result.andThen, slicedAt, hne, Addr.add_lit]
/-- A row, handed back. -/
theorem results_row {fn : Func} {p : Tmp} {ty : TypeId} (h : fn.results = #[.cell p ty]) (tmps : Array Value) (w : World) (g : Nat) (t : TypeId) (cs : List Value) (d : TypeDesc)
    (hp : tmps.getD p undef = .pointer (some ⟨g, 0, none⟩)) (hg : RowAt w g t cs) (hu : Tryd.prog.underlying ty = some d) (hd : d.isRow = true) (hi : (Tryd.prog.info? ty).map (·.size) = some cs.length) :
    (results fn tmps).run Tryd.prog w = .ok (.agg cs.toArray) w := by
  have hp' : tmps[p]?.getD undef = .pointer (some ⟨g, 0, none⟩) := by simpa using hp
  simp [results, h, hp', asAddr, run_load_row hg hu hd hi]
#print axioms load_part
end Go.Proofs.YtfoalaoanpbmeaaDoor

namespace Go.Proofs.YtfoalaoanpbmeaaDoor
open Go.RowKit

structure Hold where
  E : TypeId
  k : Nat
  v : Value
  n : Nat
  cs : List Value
def Hold.At (w : World) (base : Nat) (h : Hold) : Prop := w.ownsRow base h.E h.k h.v h.n h.cs
structure Holds (w : World) (base : Nat) (L : List Hold) : Prop where
  own : ∀ h ∈ L, h.At w base
  two : L.Pairwise fun a b => Apart a.v b.v
section
variable {w w' : World} {base : Nat} {L L1 L2 : List Hold} {h h' : Hold}
theorem rows_below {E : TypeId} {k n : Nat} {v : Value} {cs : List Value} (h : w.ownsRow base E k v n cs) (hb : Below w.heap.size w w') : w'.ownsRow base E k v n cs := by
  obtain ⟨h1, h2⟩ := h
  refine ⟨h1, ?_⟩
  rcases h2 with h2 | ⟨g, cap, cur, hv, hg, hh, r⟩
  · exact .inl h2
  · refine .inr ⟨g, cap, cur, hv, hg, ?_, r⟩
    have hlt : g < w.heap.size := by
      rcases Nat.lt_or_ge g w.heap.size with h | h
      · exact h
      · rw [Array.getElem?_eq_none h] at hh; cases hh
    rw [hb.block g hlt]; exact hh
theorem rows_mono {E : TypeId} {k n base' : Nat} {v : Value} {cs : List Value} (h : w.ownsRow base E k v n cs) (hb : base' ≤ base) : w.ownsRow base' E k v n cs := by
  obtain ⟨h1, h2⟩ := h
  refine ⟨h1, ?_⟩
  rcases h2 with h2 | ⟨g, cap, cur, hv, hg, r⟩
  · exact .inl h2
  · exact .inr ⟨g, cap, cur, hv, by omega, r⟩
theorem Holds.lt (H : Holds w base L) (hm : h ∈ L) : ∀ k, h.v.ownBlock = some k → base ≤ k ∧ k < w.heap.size := World.ownsRow.lt (H.own h hm)
theorem Holds.nil : Holds w base [] := ⟨(fun _ h => by cases h), .nil⟩
theorem Holds.below (H : Holds w base L) (hb : Below w.heap.size w w') : Holds w' base L := ⟨fun h hm => rows_below (H.own h hm) hb, H.two⟩
theorem Holds.perm (H : Holds w base L) (hp : L.Perm L1) : Holds w base L1 := ⟨fun h hm => H.own h (hp.mem_iff.2 hm), (hp.pairwise_iff (fun {_ _} h => Apart.symm h)).1 H.two⟩
theorem Holds.sub (H : Holds w base L) (hs : L1.Sublist L) : Holds w base L1 := ⟨fun h hm => H.own h (hs.subset hm), H.two.sublist hs⟩
/-- One that was made anew. -/
theorem Holds.add (H : Holds w base L) (ho : h.At w' w.heap.size) (hb : Below w.heap.size w w') (hbase : base ≤ w.heap.size) : Holds w' base (h :: L) := by
  refine ⟨fun x hx => ?_, List.pairwise_cons.2 ⟨fun x hx k hk hxk => ?_, H.two⟩⟩
  · rcases List.mem_cons.1 hx with rfl | hx
    · exact rows_mono ho hbase
    · exact (H.below hb).own x hx
  · have h1 := (World.ownsRow.lt ho k hk).1
    have h2 := (H.lt hx k hxk).2
    omega
/-- One grew. -/
theorem Holds.put (H : Holds w base (h :: L)) (hg : w.grownBy w' h.v.ownBlock) (ho : h'.At w' base) (ht : Told w h.v h'.v) : Holds w' base (h' :: L) := by
  obtain ⟨h1, h2⟩ := List.pairwise_cons.1 H.two
  refine ⟨fun x hx => ?_, List.pairwise_cons.2 ⟨fun x hx => ?_, h2⟩⟩
  · rcases List.mem_cons.1 hx with rfl | hx
    · exact ho
    · exact World.ownsRow.kept (H.own x (List.mem_cons_of_mem _ hx)) hg (Apart.symm (h1 x hx)).kept
  · exact Apart.symm (Apart.told (Apart.symm (h1 x hx)) ht (fun k hk => (H.lt (List.mem_cons_of_mem _ hx) k hk).2))
end
/-- A slice of elements. -/
abbrev hG {α : Type} (K : Kind α) (E : TypeId) (v : Value) (L : List α) : Hold := ⟨E, K.k, v, L.length, flatG K L⟩

theorem run_appG_told {α : Type} [Inhabited α] (K : Kind α) {T E : TypeId} {z : Value} {by_ : Nat} (ty : TypeId) (hU : Tryd.prog.underlying T = some (.slice E)) (hI : (Tryd.prog.info? E).map (fun i => (i.zero, i.size, i.bytes)) = some (some z, K.k, by_)) (hz : z.cells.size = K.k)
    (w : World) (base : Nat) (v : Value) (l : List α) (hown : OwnG K E w base v l) (sa : Option Addr) (m c : Nat) (src : List α) (hsrc : AtG K w sa m c src) (h48 : (l.length + m) * (by_ + 1) ≤ 140737488355328) (hbase : base ≤ w.heap.size) (r : Nat) (hr : r = l.length + m) :
    ∃ a' c' w', (Builtin.append_ #[T, T] ty #[v, .slice sa m c]).run Tryd.prog w = .ok (.slice a' r c') w' ∧ OwnG K E w' base (.slice a' r c') (l ++ src) ∧ w.grownBy w' v.ownBlock ∧ Told w v (.slice a' r c') := by
  obtain ⟨i0, hi, hz0, hz1, hz2⟩ := info_parts hI
  obtain ⟨h1, h2, h3, h5, h4⟩ := id hsrc
  have e48 : (l.length + m) * by_ ≤ 140737488355328 := Nat.le_trans (Nat.mul_le_mul_left _ (by omega)) h48
  have e63 : l.length + m ≤ 140737488355328 := Nat.le_trans (Nat.le_mul_of_pos_right _ (by omega)) h48
  have hW : ∀ y ∈ l ++ src, K.ok y := fun y hy => by
    rcases List.mem_append.1 hy with h | h
    · exact hown.2 y h
    · exact h5 y h
  have fin : ∀ v' w', (Builtin.append_ #[T, T] ty #[v, .slice sa m c]).run Tryd.prog w = .ok v' w' → OwnG K E w' base v' (l ++ src) → w.grownBy w' v.ownBlock → Told w v v' →
      ∃ a' c' w', (Builtin.append_ #[T, T] ty #[v, .slice sa m c]).run Tryd.prog w = .ok (.slice a' r c') w' ∧ OwnG K E w' base (.slice a' r c') (l ++ src) ∧ w.grownBy w' v.ownBlock ∧ Told w v (.slice a' r c') := by
    intro v' w' hrun hO hg ht
    obtain ⟨a', c', rfl, _⟩ := hO.atG_
    have e : (l ++ src).length = r := by rw [List.length_append, h1, hr]
    rw [e] at hO hrun ht
    exact ⟨a', c', w', hrun, hO, hg, ht⟩
  rcases h4 with ⟨rfl, rfl⟩ | ⟨b, off, rfl, hc⟩
  · have : src = [] := List.length_eq_zero_iff.1 h1
    subst this
    cases sa with
    | none => exact fin v w (run_append_owned_none (P := Tryd.prog) _ base T ty E i0 K.k hU hi _ _ _ hown.1) (by rw [List.append_nil]; exact hown) ⟨rfl, rfl, rfl, Nat.le_refl _, fun _ _ _ => rfl⟩ (.inl rfl)
    | some ad =>
      obtain ⟨v', w', hrun, h6, h7, h8⟩ := run_append_tell (P := Tryd.prog) w base T ty E i0 z K.k by_ hU hi hz0 hz1 hz2 hz K.pos _ _ _ hown.1 ad 0 0 [] (by simp) (by simp) (by simp) (by unfold maxLen; omega) (by simpa using e48) hbase
      exact fin v' w' hrun (by rw [List.append_nil]; exact ⟨by simpa using h6, hown.2⟩) h7 h8
  · obtain ⟨v', w', hrun, h6, h7, h8⟩ := run_append_tell (P := Tryd.prog) w base T ty E i0 z K.k by_ hU hi hz0 hz1 hz2 hz K.pos _ _ _ hown.1 ⟨b, off, none⟩ m c (flatG K src) (by rw [flatG_length K h5, h1]) (fun j u hu => by
      rw [Addr.add_lit]
      exact hsrc.pick j u hu) (flatG_one K h5) (by unfold maxLen; omega) e48 hbase
    refine fin v' w' hrun ⟨?_, hW⟩ h7 h8
    rw [List.length_append, flatG_append, h1]
    exact h6
theorem appG_told {α : Type} [Inhabited α] (K : Kind α) {T E : TypeId} {z : Value} {by_ : Nat} (hU : Tryd.prog.underlying T = some (.slice E)) (hI : (Tryd.prog.info? E).map (fun i => (i.zero, i.size, i.bytes)) = some (some z, K.k, by_)) (hz : z.cells.size = K.k)
    {w : World} {ops : Array Oper} {rest : List Oper} {o : Oper} {a : Act} {Q : Exit → Act → World → Prop} (hgd : o.guard = none) (s x : Operand)
    (ho : o.op = .call { callee := .builtin .append, args := #[s, x], argTypes := #[T, T] })
    (base : Nat) (v : Value) (l : List α) (hs : a.eval s = v) (hown : OwnG K E w base v l)
    (sa : Option Addr) (m c : Nat) (src : List α) (hx : a.eval x = .slice sa m c) (hsrc : AtG K w sa m c src)
    (h48 : (l.length + m) * (by_ + 1) ≤ 140737488355328) (hbase : base ≤ w.heap.size) (r : Nat) (hr : r = l.length + m)
    (h : ∀ a' c' w', OwnG K E w' base (.slice a' r c') (l ++ src) → w.grownBy w' v.ownBlock → Told w v (.slice a' r c') → wpList Tryd.prog ops Q rest (a.put o.dst (.slice a' r c')) w') : wpList Tryd.prog ops Q (o :: rest) a w := by
  obtain ⟨a', c', w', hrun, h1, h2, h3⟩ := run_appG_told K o.type hU hI hz w base v l hown sa m c src hsrc h48 hbase r hr
  exact wpList_plain hgd fun _ hK => Lib.wp_append_run _ s x _ _ ho _ _ hs hx _ _ hrun (hK _ _ (h a' c' w' h1 h2 h3))
section
variable {w w' : World} {base : Nat} {L : List Hold} {g0 : Nat} {h : Hold}
theorem Holds.mono {base' : Nat} (H : Holds w base L) (hb : base' ≤ base) : Holds w base' L := ⟨fun h hm => rows_mono (H.own h hm) hb, H.two⟩
theorem Holds.alike (H : Holds w base L) (h : ∀ k, base ≤ k → k < w.heap.size → w'.heap[k]? = w.heap[k]?) : Holds w' base L := ⟨fun x hx => by
  obtain ⟨h1, h2⟩ := H.own x hx
  refine ⟨h1, ?_⟩
  rcases h2 with h2 | ⟨g, cap, cur, hv, hg, hh, r⟩
  · exact .inl h2
  · refine .inr ⟨g, cap, cur, hv, hg, ?_, r⟩
    have hlt : g < w.heap.size := by
      rcases Nat.lt_or_ge g w.heap.size with h | h
      · exact h
      · rw [Array.getElem?_eq_none h] at hh; cases hh
    rw [h g hg hlt]; exact hh, H.two⟩
theorem Holds.setLow (H : Holds w base L) (hg : g0 < base) (o : Nat) (u : Value) : Holds (w.setCell ⟨g0, o, none⟩ u) base L := H.alike fun k hk _ => Below.heap_setCell _ _ _ _ (by show k ≠ g0; omega)
theorem Holds.grownLow (H : Holds w base L) (hg : g0 < base) (h : w.grownBy w' (some g0)) : Holds w' base L := ⟨fun x hx => World.ownsRow.kept (H.own x hx) h (by
  cases hv : x.v.ownBlock with
  | none => exact .inl rfl
  | some k => exact .inr (fun e => by have e2 := Option.some.inj e; have := (H.lt hx k hv).1; omega)), H.two⟩
end
#print axioms Holds.grownLow
end Go.Proofs.YtfoalaoanpbmeaaDoor
