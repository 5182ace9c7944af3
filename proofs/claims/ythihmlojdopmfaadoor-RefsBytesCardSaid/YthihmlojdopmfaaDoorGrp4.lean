/-
  Merged: OrdMath, OrdCmp, IdList, IdStep, RfMem.
-/
import Derived.Below
import Derived.Test.YthihmlojdopmfaaDoorGrp2
import Derived.Test.YthihmlojdopmfaaDoorGrp1
import Derived.Lib.Bytealg
import Derived.Lib.BytesEntry
import Derived.Deep.QuietTactic
import Derived.BigQuiet
import Derived.WalkSmall
import Derived.Still
import Derived.Tactics
import Derived.StillTailTactics
import Derived.Deep.LoopGhost
import Derived.Test.YthihmlojdopmfaaDoorGrp3
namespace Go.Proofs.YthihmlojdopmfaaDoor

def cmpF : List UInt8 → List UInt8 → Int
 | [], [] => 0
 | [], _ :: _ => -1
 | _ :: _, [] => 1
 | a :: r, b :: s => if a.toNat < b.toNat then -1 else if b.toNat < a.toNat then 1 else cmpF r s

theorem cmpF_self (a : List UInt8) : cmpF a a = 0 := by
 induction a with
 | nil => rfl
 | cons x r ih => simp [cmpF, ih]

theorem cmpF_trans {a b c : List UInt8} (h1 : cmpF a b ≤ 0) (h2 : cmpF b c ≤ 0) : cmpF a c ≤ 0 ∧ (cmpF a c = 0 → cmpF a b = 0 ∧ cmpF b c = 0) := by
 induction a generalizing b c with
 | nil =>
  cases b with
  | nil => exact ⟨h2, fun h => ⟨rfl, h⟩⟩
  | cons y s => cases c with | nil => simp [cmpF] at h2 | cons z t => simp [cmpF]
 | cons x r ih =>
  cases b with
  | nil => simp [cmpF] at h1
  | cons y s =>
   cases c with
   | nil => simp [cmpF] at h2
   | cons z t =>
    unfold cmpF at h1 h2 ⊢
    by_cases e1 : x.toNat < y.toNat
    ·have e2 : ¬ z.toNat < y.toNat := fun h => by rw [if_neg (by omega), if_pos h] at h2; omega
     rw [if_pos (by omega)]
     exact ⟨by omega, fun h => by omega⟩
    ·rw [if_neg e1] at h1
     by_cases e2 : y.toNat < x.toNat
     ·rw [if_pos e2] at h1; omega
     ·rw [if_neg e2] at h1
      have hxy : x.toNat = y.toNat := by omega
      by_cases e3 : y.toNat < z.toNat
      ·rw [if_pos (by omega)]
       exact ⟨by omega, fun h => by omega⟩
      ·rw [if_neg e3] at h2
       by_cases e4 : z.toNat < y.toNat
       ·rw [if_pos e4] at h2; omega
       ·rw [if_neg e4] at h2
        rw [if_neg (by omega), if_neg (by omega), if_neg e1, if_neg e2, if_neg e3, if_neg e4]
        exact ih h1 h2

theorem cmpF_at : ∀ (i : Nat) (a b : List UInt8), a.take i = b.take i → i < a.length → i < b.length →
  cmpF a b = if (a.getD i 0).toNat < (b.getD i 0).toNat then -1 else if (b.getD i 0).toNat < (a.getD i 0).toNat then 1 else cmpF (a.drop (i + 1)) (b.drop (i + 1))
 | 0, [], _, _, h, _ => by simp at h
 | 0, _ :: _, [], _, _, h => by simp at h
 | 0, x :: r, y :: s, _, _, _ => by simp [cmpF]
 | i + 1, [], _, _, h, _ => by simp at h
 | i + 1, _ :: _, [], _, _, h => by simp at h
 | i + 1, x :: r, y :: s, h, ha, hb => by
  simp only [List.take_succ_cons, List.cons.injEq] at h
  obtain ⟨rfl, h⟩ := h
  have := cmpF_at i r s h (by simpa using ha) (by simpa using hb)
  rw [cmpF, if_neg (by omega), if_neg (by omega), this]
  rfl

def Up (l : List (List UInt8)) : Prop := l.Pairwise fun a b => cmpF a b ≤ 0
def SetF (l : List (List UInt8)) : Prop := l.Pairwise fun a b => cmpF a b < 0

theorem cmpF_lt_trans {a b c : List UInt8} (h1 : cmpF a b < 0) (h2 : cmpF b c < 0) : cmpF a c < 0 := by
 have h := cmpF_trans (a := a) (b := b) (c := c) (by omega) (by omega)
 rcases Int.lt_or_eq_of_le h.1 with h3 | h3
 ·exact h3
 ·have := (h.2 h3).1; omega
theorem SetF.up {l : List (List UInt8)} (h : SetF l) : Up l := h.imp (fun h => by omega)
def leB (a b : List UInt8) : Bool := decide (cmpF a b ≤ 0)
def sortF (l : List (List UInt8)) : List (List UInt8) := l.mergeSort leB
def onceF : List (List UInt8) → List (List UInt8) → List (List UInt8)
 | out, [] => out
 | out, x :: r => onceF (if x ∈ out then out else out ++ [x]) r
def setF (l : List (List UInt8)) : List (List UInt8) := sortF (onceF [] l)
theorem setF_chain {l : List (List UInt8)} : SetF l ↔ ∀ i, i + 1 < l.length → cmpF (l.getD i []) (l.getD (i + 1) []) < 0 := by
 constructor
 ·intro h i hi
  have := List.pairwise_iff_getElem.1 h i (i + 1) (by omega) hi (by omega)
  simpa [show i < l.length by omega, hi] using this
 ·intro h
  refine List.pairwise_iff_getElem.2 (fun i j hi hj hij => ?_)
  have key : ∀ d i, i + d + 1 < l.length → cmpF (l.getD i []) (l.getD (i + d + 1) []) < 0 := by
   intro d
   induction d with
   | zero => intro i hi; exact h i hi
   | succ d ih =>
    intro i hi
    exact cmpF_lt_trans (ih i (by omega)) (h (i + d + 1) hi)
  have := key (j - i - 1) i (by omega)
  rw [show i + (j - i - 1) + 1 = j from by omega] at this
  simpa [hi, hj] using this

def aheadF (l : List (List UInt8)) (x : List UInt8) : Nat := (l.takeWhile fun a => decide (cmpF a x < 0)).length
structure KeyV where
 t : Int
 c : List UInt8
 i : Int

def keyF (a b : KeyV) : Int :=
 if a.t < b.t then -1 else if b.t < a.t then 1 else if cmpF a.c b.c = 0 then (if a.i < b.i then -1 else if b.i < a.i then 1 else 0) else cmpF a.c b.c

def placeLe (ks : List KeyV) (i j : Nat) : Prop := keyF (ks.getD i ⟨0, [], 0⟩) (ks.getD j ⟨0, [], 0⟩) < 0 ∨ (keyF (ks.getD i ⟨0, [], 0⟩) (ks.getD j ⟨0, [], 0⟩) = 0 ∧ i ≤ j)
end Go.Proofs.YthihmlojdopmfaaDoor

namespace Go.Proofs.YthihmlojdopmfaaDoor
open Go.RowKit

def CmpIs (l k : List UInt8) (w : World) (e : Ending) (w' : World) : Prop := e = .returned (.int .i64 (cmpF l k)) ∧ Below w.heap.size w w'

theorem IdAt.bytes {w : World} {g : Nat} {l : List UInt8} (h : IdAt w g l) : Bytes w (some ⟨g, 0, none⟩) 32 32 l :=
 ⟨h.1, Nat.le_refl _, by omega, .inr ⟨g, 0, rfl, fun j hj => by rw [Nat.zero_add, h.cell j hj]; rfl⟩⟩

end Go.Proofs.YthihmlojdopmfaaDoor

namespace Go.Proofs.YthihmlojdopmfaaDoor
open Go.RowKit

def flat (L : List (List UInt8)) : List Value := L.flatMap (·.map B)
def W32 (L : List (List UInt8)) : Prop := ∀ x ∈ L, x.length = 32

theorem flat_at {L : List (List UInt8)} (h : W32 L) (i : Nat) (hi : i < L.length) : ((flat L).drop (i * 32)).take 32 = (L.getD i []).map B := by
 induction L generalizing i with
 | nil => simp at hi
 | cons x L ih =>
  have hx := h x (by simp)
  have hL : W32 L := fun y hy => h y (by simp [hy])
  have e : flat (x :: L) = x.map B ++ flat L := rfl
  cases i with
  | zero =>
   rw [e, Nat.zero_mul, List.drop_zero, List.take_append_of_le_length (by simp [hx]), List.take_of_length_le (by simp [hx])]
   rfl
  | succ i =>
   have hl : (x.map B).length = 32 := by simp [hx]
   rw [e, show (i + 1) * 32 = (x.map B).length + i * 32 from by omega, List.drop_append]
   rw [List.drop_eq_nil_of_le (by omega), List.nil_append, show (x.map B).length + i * 32 - (x.map B).length = i * 32 from by omega]
   exact ih hL i (by simpa using hi)

theorem getD_32 {L : List (List UInt8)} (h : W32 L) {i : Nat} (hi : i < L.length) : (L.getD i []).length = 32 := by
 have : L.getD i [] = L[i] := by simp [hi]
 rw [this]
 exact h _ (List.getElem_mem hi)

def IdsAt (w : World) (a : Option Addr) (n c : Nat) (L : List (List UInt8)) : Prop :=
 L.length = n ∧ n ≤ c ∧ c ≤ 9223372036854775807 ∧ W32 L ∧ ((n = 0 ∧ c = 0) ∨ ∃ b off, a = some ⟨b, off, none⟩ ∧ w.rangeAt b off (flat L))

theorem IdsAt.nil (w : World) : IdsAt w none 0 0 [] := ⟨rfl, Nat.le_refl _, by omega, (fun _ h => by cases h), .inl ⟨rfl, rfl⟩⟩

theorem rangeAt_below {w w' : World} {b off : Nat} {cs : List Value} (h : w.rangeAt b off cs) (hb : Below w.heap.size w w') : w'.rangeAt b off cs := fun j v hv =>
 (hb.cell (World.block_lt_of_cell? _ _ (h j v hv))).trans (h j v hv)

theorem IdsAt.below {w w' : World} {a : Option Addr} {n c : Nat} {L : List (List UInt8)} (h : IdsAt w a n c L) (hb : Below w.heap.size w w') : IdsAt w' a n c L := by
 obtain ⟨h1, h2, h3, h5, h4⟩ := h
 refine ⟨h1, h2, h3, h5, ?_⟩
 rcases h4 with h4 | ⟨b, off, ha, hc⟩
 ·exact .inl h4
 ·exact .inr ⟨b, off, ha, rangeAt_below hc hb⟩

theorem IdsAt.some_ {w : World} {a : Option Addr} {n c : Nat} {L : List (List UInt8)} (h : IdsAt w a n c L) (hn : 0 < n) : ∃ b off, a = some ⟨b, off, none⟩ := by
 rcases h.2.2.2.2 with ⟨h0, _⟩ | ⟨b, off, ha, _⟩
 ·omega
 ·exact ⟨b, off, ha⟩

theorem IdsAt.at_ {w : World} {b off n c : Nat} {L : List (List UInt8)} (h : IdsAt w (some ⟨b, off, none⟩) n c L) (i : Nat) (hi : i < n) : w.rangeAt b (off + i * 32) ((L.getD i []).map B) := by
 obtain ⟨h1, h2, h3, h5, h4⟩ := h
 rcases h4 with ⟨h0, _⟩ | ⟨b', off', ha, hc⟩
 ·omega
 ·simp only [Option.some.injEq, Addr.mk.injEq, and_true] at ha
  obtain ⟨rfl, rfl⟩ := ha
  intro j v hj
  have hj32 : j < 32 := by
   have := (List.getElem?_eq_some_iff.1 hj).1
   rw [List.length_map, getD_32 h5 (by omega)] at this
   exact this
  rw [← flat_at h5 i (by omega), List.getElem?_take, if_pos hj32, List.getElem?_drop] at hj
  have := hc (i * 32 + j) v hj
  rw [Nat.add_assoc]
  exact this

def OwnI (w : World) (base : Nat) (v : Value) (L : List (List UInt8)) : Prop := w.ownsRow base 24 32 v L.length (flat L) ∧ W32 L

theorem OwnI.nil (w : World) (base : Nat) : OwnI w base (.slice none 0 0) [] := ⟨World.ownsRow_nil _ _ _ _, (fun _ h => by cases h)⟩

theorem OwnI.ids {w : World} {base : Nat} {v : Value} {L : List (List UInt8)} (h : OwnI w base v L) : ∃ a c, v = .slice a L.length c ∧ IdsAt w a L.length c L := by
 obtain ⟨h0, h5⟩ := h
 have h0' := h0
 obtain ⟨h1, h2⟩ := h0
 rcases h2 with ⟨rfl, hn⟩ | ⟨g, cap, cur, rfl, hb, hg, hn, hm, hs, ht⟩
 ·have : L = [] := List.length_eq_zero_iff.1 hn
  subst this
  exact ⟨none, 0, rfl, IdsAt.nil w⟩
 ·refine ⟨_, _, rfl, rfl, hn, by unfold maxLen at hm; omega, h5, .inr ⟨g, 0, rfl, fun j v hv => ?_⟩⟩
  have := h0'.cells (g := g) rfl j v hv
  rw [Addr.add_lit] at this
  exact this

theorem OwnI.lt {w : World} {base : Nat} {v : Value} {L : List (List UInt8)} (h : OwnI w base v L) : ∀ k, v.ownBlock = some k → base ≤ k ∧ k < w.heap.size := fun k hk => World.ownsRow.lt h.1 k hk
theorem OwnI.alloc {w : World} {base : Nat} {v : Value} {L : List (List UInt8)} (h : OwnI w base v L) (o : Obj) : OwnI (w.alloc o) base v L := ⟨World.ownsRow.alloc h.1 o, h.2⟩
theorem OwnI.mono {w : World} {base base' : Nat} {v : Value} {L : List (List UInt8)} (h : OwnI w base v L) (hb : base' ≤ base) : OwnI w base' v L := by
 obtain ⟨⟨h1, h2⟩, h3⟩ := h
 refine ⟨⟨h1, ?_⟩, h3⟩
 rcases h2 with h2 | ⟨g, cap, cur, hv, hg, r⟩
 ·exact .inl h2
 ·exact .inr ⟨g, cap, cur, hv, by omega, r⟩
theorem OwnI.below {w w' : World} {base : Nat} {v : Value} {L : List (List UInt8)} (h : OwnI w base v L) (hb : Below w.heap.size w w') : OwnI w' base v L := by
 obtain ⟨⟨h1, h2⟩, h3⟩ := h
 refine ⟨⟨h1, ?_⟩, h3⟩
 rcases h2 with h2 | ⟨g, cap, cur, hv, hg, hh, r⟩
 ·exact .inl h2
 ·refine .inr ⟨g, cap, cur, hv, hg, ?_, r⟩
  have hlt : g < w.heap.size := by
   rcases Nat.lt_or_ge g w.heap.size with h | h
   ·exact h
   ·rw [Array.getElem?_eq_none h] at hh; cases hh
  rw [hb.block g hlt]; exact hh

def MadeI (w : World) (L : List (List UInt8)) (e : Ending) (w' : World) : Prop := ∃ a n c, e = .returned (.slice a n c) ∧ OwnI w' w.heap.size (.slice a n c) L ∧ Below w.heap.size w w'
theorem MadeI.of {w w' : World} {L : List (List UInt8)} {v : Value} (h : OwnI w' w.heap.size v L) (hb : Below w.heap.size w w') : MadeI w L (.returned v) w' := by
 obtain ⟨a, c, rfl, _⟩ := h.ids
 exact ⟨a, _, c, rfl, h, hb⟩
theorem Tryd.infoI24 : (Tryd.prog.info? 24).map (fun i => (i.zero, i.size, i.bytes)) = some (some (.agg (idCells idZero)), 32, 32) := by kernel_rfl

theorem run_items (w : World) (d : Nat) (l k : List UInt8) (hlk : l.length = k.length) : ∀ is : List Nat, (∀ i ∈ is, i < l.length) →
  (Op.eqItems (d + 1) 5 1 (idCells l) (idCells k) is).run Tryd.prog w = .ok (is.all fun i => l.getD i 0 == k.getD i 0) w
 | [], _ => by simp [Op.eqItems]
 | i :: is, h => by
  have hi : i < l.length := h i (by simp)
  have hp : ∀ m : List UInt8, i < m.length → (part 5 (idCells m) (i * 1)).run Tryd.prog w = .ok (B (m.getD i 0)) w := fun m hm => by
   have hagg : (isAgg 5).run Tryd.prog w = .ok false w := by kernel_rfl
   have hget : (idCells m)[i]? = some (B (m.getD i 0)) := by unfold idCells; simp [hm]
   simp [part, hagg, hget]
  have he : (Op.equalIn (d + 1) 5 (B (l.getD i 0)) (B (k.getD i 0))).run Tryd.prog w = .ok (l.getD i 0 == k.getD i 0) w := by
   have e : ((l.getD i 0).toNat == (k.getD i 0).toNat) = (l.getD i 0 == k.getD i 0) := by
    rw [Bool.eq_iff_iff, beq_iff_eq, beq_iff_eq, UInt8.toNat_inj]
   rw [← e]
   simp [Op.equalIn, run_underlying Tryd.underlying5, B]
   rw [Bool.eq_iff_iff, beq_iff_eq, beq_iff_eq]
   omega
  simp only [Op.eqItems, Sem.run_bind, hp l hi, hp k (by omega), he, Result.andThen_ok]
  by_cases hc : (l.getD i 0 == k.getD i 0) = true
  ·rw [hc]
   simp only [Bool.not_true, Bool.false_eq_true, if_false, List.all_cons, hc, Bool.true_and]
   exact run_items w d l k hlk is (fun j hj => h j (by simp [hj]))
  ·have hc' : (l.getD i 0 == k.getD i 0) = false := by simpa using hc
   rw [hc']
   simp only [Bool.not_false, if_true, List.all_cons, hc', Bool.false_and, Sem.run_pure]

set_option maxRecDepth 100000 in
theorem run_eqIds (w : World) {l k : List UInt8} (h : l.length = 32) (hk : k.length = 32) : (Op.equalIn 10000 24 (.agg (idCells l)) (.agg (idCells k))).run Tryd.prog w = .ok (decide (l = k)) w := by
 obtain ⟨i0, hi, _⟩ := info_parts Tryd.info5
 have hc : Tryd.prog.cellsOf 5 = 1 := by kernel_rfl
 rw [show (10000 : Nat) = 9999 + 1 from rfl, run_equalIn_array w 9999 (idCells l) (idCells k) Tryd.underlying24 hi, hc, show (9999 : Nat) = 9998 + 1 from rfl]
 rw [run_items w 9998 l k (by omega) (List.range 32) (fun i hi => by rw [h]; simpa using hi)]
 congr 1
 rw [Bool.eq_iff_iff, decide_eq_true_iff, List.all_eq_true]
 constructor
 ·intro hall
  apply List.ext_getElem (by omega)
  intro i hi1 hi2
  have := hall i (by simp; omega)
  rw [beq_iff_eq] at this
  simpa [hi1, hi2] using this
 ·rintro rfl i _
  simp
end Go.Proofs.YthihmlojdopmfaaDoor

namespace Go.Proofs.YthihmlojdopmfaaDoor
open Go.RowKit

theorem run_loadId {w : World} {b off : Nat} {l : List UInt8} (hl : l.length = 32) (hc : w.rangeAt b off (l.map B)) : (loadVar 24 ⟨b, off, none⟩).run Tryd.prog w = .ok (.agg (idCells l)) w :=
 run_loadVar_mid (P := Tryd.prog) w b off 24 (l.map B) _ hc Tryd.underlying24 rfl (by rw [List.length_map, hl]; exact info_id)

theorem exec_loadId {w : World} {o : Oper} {a : Act} (x : Operand) (ho : o.op = .load 24 x) (b off : Nat) (l : List UInt8) (hl : l.length = 32) (hx : a.eval x = .pointer (some ⟨b, off, none⟩)) (hc : w.rangeAt b off (l.map B)) :
  (execOp a.eval o).run Tryd.prog w = .ok (.value (.agg (idCells l))) w := by
 unfold execOp
 simp only [ho, hx, Instr.loadAt, Instr.sureAddr, Sem.run_bind, Sem.run_pure, Result.andThen_ok, run_loadId hl hc]

theorem exec_eqlId {w : World} {o : Oper} {a : Act} (x y : Operand) (r : TypeId) (ho : o.op = .binOp .eql 24 x y r) (l k : List UInt8) (hl : l.length = 32) (hk : k.length = 32) (hx : a.eval x = .agg (idCells l)) (hy : a.eval y = .agg (idCells k)) :
  (execOp a.eval o).run Tryd.prog w = .ok (.value (.bool (decide (l = k)))) w := by
 unfold execOp
 simp only [ho, hx, hy, Sem.run_bind, run_eqGuard_agg w _ _ _ _ _ _ noGuard_id, Result.andThen_ok, run_eql_struct, run_eqIds w hl hk, Sem.run_pure]

theorem exec_neqId {w : World} {o : Oper} {a : Act} (x y : Operand) (r : TypeId) (ho : o.op = .binOp .neq 24 x y r) (l k : List UInt8) (hl : l.length = 32) (hk : k.length = 32) (hx : a.eval x = .agg (idCells l)) (hy : a.eval y = .agg (idCells k)) :
  (execOp a.eval o).run Tryd.prog w = .ok (.value (.bool (!decide (l = k)))) w := by
 unfold execOp
 simp only [ho, hx, hy, Sem.run_bind, run_eqGuard_agg w _ _ _ _ _ _ noGuard_id, Result.andThen_ok, run_neq_struct, run_eqIds w hl hk, Sem.run_pure]

theorem wl_load {w : World} {ops : Array Oper} {rest : List Oper} {o : Oper} {a : Act} {Q : Exit → Act → World → Prop} (hw : Region.wanted o (yielded ops a.tmps) = true) (x : Operand) (ho : o.op = .load 24 x)
  (b off : Nat) (l : List UInt8) (hl : l.length = 32) (hx : a.eval x = .pointer (some ⟨b, off, none⟩)) (hc : w.rangeAt b off (l.map B))
  (h : wpList Tryd.prog ops Q rest (a.put o.dst (.agg (idCells l))) w) : wpList Tryd.prog ops Q (o :: rest) a w := by
 unfold wpList
 rw [if_pos hw]
 exact .inl (by unfold Oper.wp; rw [exec_loadId x ho b off l hl hx hc]; exact h)

theorem IdAt.range {w : World} {g : Nat} {l : List UInt8} (h : IdAt w g l) : w.rangeAt g 0 (l.map B) := fun j v hj => by
 rw [List.getElem?_map] at hj
 have hjl : j < l.length := by
  rcases Nat.lt_or_ge j l.length with h | h
  ·exact h
  ·rw [List.getElem?_eq_none h] at hj; cases hj
 simp only [List.getElem?_eq_getElem hjl, Option.map_some, Option.some.injEq] at hj
 subst hj
 rw [Nat.zero_add, h.cell j (by have := h.1; omega)]
 simp [hjl]

theorem boolR {a b : Bool} (h : a = b) : Ending.returned (.bool a) = .returned (.bool b) := by rw [h]

end Go.Proofs.YthihmlojdopmfaaDoor

namespace Go.Proofs.YthihmlojdopmfaaDoor
open Go.RowKit

theorem wl_ex {w : World} {ops : Array Oper} {rest : List Oper} {o : Oper} {a : Act} {Q : Exit → Act → World → Prop} {v : Value} (hw : Region.wanted o (yielded ops a.tmps) = true) (hr : (execOp a.eval o).run Tryd.prog w = .ok (.value v) w)
  (h : wpList Tryd.prog ops Q rest (a.put o.dst v) w) : wpList Tryd.prog ops Q (o :: rest) a w := by
 unfold wpList
 rw [if_pos hw]
 exact .inl (by unfold Oper.wp; rw [hr]; exact h)
theorem exec_build {w : World} {o : Oper} {a : Act} (t : TypeId) (parts : Array (Nat × Operand)) (ho : o.op = .build t parts) (cells : Array Value)
  (h : Tryd.prog.built t (parts.map fun (i, x) => (i, a.eval x)).toList = some cells) : (execOp a.eval o).run Tryd.prog w = .ok (.value (.agg cells)) w := by
 unfold execOp
 simp only [ho, Sem.run_bind, run_build w t _ cells h, Result.andThen_ok, Sem.run_pure]
theorem below_drewK {base : Nat} {w w' : World} (h : Below base w w') (n : Nat) : Below base w (w'.drewN n) := ⟨h.os, h.tape, h.output, h.size, h.block⟩
theorem ready_step {P : Program} {o : Oper} {a : Act} {w : World} {K : Act → World → Prop} {Q : Exit → Act → World → Prop} (h : o.wp P a w K Q) : o.wp P a w K Q := h
theorem B_one (l : List UInt8) : ∀ v ∈ l.map B, v.oneCell' = true := fun v hv => by
 obtain ⟨b, _, rfl⟩ := List.mem_map.1 hv
 rfl
abbrev RName : Type := List UInt8 × List UInt8
def rnL (x : RName) : List Value := .string (strB x.1) :: x.2.map B
theorem rnL_len {x : RName} (h : x.2.length = 32) : (rnL x).length = 33 := by simp [rnL, h]
theorem rnL_one (x : RName) : ∀ v ∈ rnL x, v.oneCell' = true := fun v hv => by
 rcases List.mem_cons.1 hv with rfl | hv
 ·rfl
 ·exact B_one _ v hv
def rnK : Kind RName := ⟨rnL, 33, fun x => x.2.length = 32, by decide, fun _ h => rnL_len h, fun x _ => rnL_one x⟩
structure UpdV where
 kind : Nat
 name : List UInt8
 old : List UInt8
 new : List UInt8
abbrev zId : List UInt8 := idZero
instance : Inhabited UpdV := ⟨⟨0, [], zId, zId⟩⟩
def UpOk (u : UpdV) : Prop := u.kind < 256 ∧ u.old.length = 32 ∧ u.new.length = 32
def upL (u : UpdV) : List Value := [.int .u8 (u.kind : Int), .string (strB u.name)] ++ (u.old.map B ++ u.new.map B)
theorem upL_len {u : UpdV} (h : UpOk u) : (upL u).length = 66 := by simp [upL, h.2.1, h.2.2]
theorem upL_one (u : UpdV) : ∀ v ∈ upL u, v.oneCell' = true := fun v hv => by
 simp only [upL, List.mem_append, List.mem_cons, List.not_mem_nil, or_false] at hv
 rcases hv with (rfl | rfl) | hv | hv
 ·rfl
 ·rfl
 ·exact B_one _ v hv
 ·exact B_one _ v hv
def upK : Kind UpdV := ⟨upL, 66, UpOk, by decide, fun _ h => upL_len h, fun x _ => upL_one x⟩
structure EntV where
 upd : UpdV
 note : List UInt8
instance : Inhabited EntV := ⟨⟨default, []⟩⟩
def enL (e : EntV) : List Value := upL e.upd ++ [.string (strB e.note)]
theorem enL_len {e : EntV} (h : UpOk e.upd) : (enL e).length = 67 := by simp [enL, upL_len h]
theorem enL_one (e : EntV) : ∀ v ∈ enL e, v.oneCell' = true := fun v hv => by
 rcases List.mem_append.1 hv with hv | hv
 ·exact upL_one _ v hv
 ·simp only [List.mem_cons, List.not_mem_nil, or_false] at hv
  subst hv; rfl
def enK : Kind EntV := ⟨enL, 67, fun e => UpOk e.upd, by decide, fun _ h => enL_len h, fun x _ => enL_one x⟩

structure RefsV where
 br : List RName
 tg : List RName
 head : List UInt8
 at_ : List UInt8
 log : List EntV
def noRefs : RefsV := ⟨[], [], [], zId, []⟩
structure RfS where
 ab : Option Addr
 nb : Nat
 cb : Nat
 ag : Option Addr
 ng : Nat
 cg : Nat
 al : Option Addr
 nl : Nat
 cl : Nat
def noS : RfS := ⟨none, 0, 0, none, 0, 0, none, 0, 0⟩
def rfL (S : RfS) (h a : List UInt8) : List Value := [.slice S.ab S.nb S.cb, .slice S.ag S.ng S.cg, .string (strB h)] ++ (a.map B ++ [.slice S.al S.nl S.cl])
def rfC (S : RfS) (h a : List UInt8) : Array Value := (rfL S h a).toArray
theorem rfL_len {S : RfS} {h a : List UInt8} (ha : a.length = 32) : (rfL S h a).length = 36 := by simp [rfL, ha]
theorem rfL_one (S : RfS) (h a : List UInt8) : ∀ v ∈ rfL S h a, v.oneCell' = true := fun v hv => by
 simp only [rfL, List.mem_append, List.mem_cons, List.not_mem_nil, or_false] at hv
 rcases hv with (rfl | rfl | rfl) | hv | rfl <;> first | rfl | exact B_one _ v hv
structure RfIn (w : World) (S : RfS) (r : RefsV) : Prop where
 br : AtG rnK w S.ab S.nb S.cb r.br
 tg : AtG rnK w S.ag S.ng S.cg r.tg
 log : AtG enK w S.al S.nl S.cl r.log
 at_ : r.at_.length = 32
theorem RfIn.below {w w' : World} {S : RfS} {r : RefsV} (h : RfIn w S r) (hb : Below w.heap.size w w') : RfIn w' S r := ⟨h.br.below hb, h.tg.below hb, h.log.below hb, h.at_⟩
theorem RfIn.none (w : World) : RfIn w noS noRefs := ⟨AtG.nil, AtG.nil, AtG.nil, rfl⟩
abbrev NEf : TypeId := 55
abbrev EEf : TypeId := 50
abbrev UEf : TypeId := 48
abbrev REf : TypeId := 35
structure RfOwn (w : World) (base : Nat) (S : RfS) (r : RefsV) : Prop where
 holds : Holds w base [hG rnK NEf (.slice S.ab S.nb S.cb) r.br, hG rnK NEf (.slice S.ag S.ng S.cg) r.tg, hG enK EEf (.slice S.al S.nl S.cl) r.log]
 okb : ∀ x ∈ r.br, rnK.ok x
 okg : ∀ x ∈ r.tg, rnK.ok x
 okl : ∀ x ∈ r.log, enK.ok x
 at_ : r.at_.length = 32
section
variable {w w' : World} {base : Nat} {S : RfS} {r : RefsV}
theorem RfOwn.br (h : RfOwn w base S r) : OwnG rnK NEf w base (.slice S.ab S.nb S.cb) r.br := ⟨h.holds.own (hG rnK NEf (.slice S.ab S.nb S.cb) r.br) (by simp), h.okb⟩
theorem RfOwn.tg (h : RfOwn w base S r) : OwnG rnK NEf w base (.slice S.ag S.ng S.cg) r.tg := ⟨h.holds.own (hG rnK NEf (.slice S.ag S.ng S.cg) r.tg) (by simp), h.okg⟩
theorem RfOwn.log (h : RfOwn w base S r) : OwnG enK EEf w base (.slice S.al S.nl S.cl) r.log := ⟨h.holds.own (hG enK EEf (.slice S.al S.nl S.cl) r.log) (by simp), h.okl⟩
theorem RfOwn.inn (h : RfOwn w base S r) : RfIn w S r := ⟨h.br.atG, h.tg.atG, h.log.atG, h.at_⟩
theorem RfOwn.below (h : RfOwn w base S r) (hb : Below w.heap.size w w') : RfOwn w' base S r := ⟨h.holds.below hb, h.okb, h.okg, h.okl, h.at_⟩
theorem RfOwn.mono {base' : Nat} (h : RfOwn w base S r) (hb : base' ≤ base) : RfOwn w base' S r := ⟨h.holds.mono hb, h.okb, h.okg, h.okl, h.at_⟩
end
-- the sizes
theorem infoNf : (Tryd.prog.info? NEf).map (fun i => (i.zero, i.size, i.bytes)) = some (some (.agg (rnL ([], zId)).toArray), 33, 48) := by kernel_rfl
theorem infoEf : (Tryd.prog.info? EEf).map (fun i => (i.zero, i.size, i.bytes)) = some (some (.agg (enL default).toArray), 67, 104) := by kernel_rfl
theorem infoUf : (Tryd.prog.info? UEf).map (fun i => (i.zero, i.size, i.bytes)) = some (some (.agg (upL default).toArray), 66, 88) := by kernel_rfl
end Go.Proofs.YthihmlojdopmfaaDoor
