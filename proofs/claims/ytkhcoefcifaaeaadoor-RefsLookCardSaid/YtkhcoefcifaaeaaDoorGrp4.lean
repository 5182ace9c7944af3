/-
  Merged: IdStep, RfMem.
-/
import Derived.Test.YtkhcoefcifaaeaaDoorGrp3
import Derived.Deep.QuietTactic
import Derived.BigQuiet
import Derived.WalkSmall
import Derived.Deep.LoopGhost
import Derived.Test.YtkhcoefcifaaeaaDoorGrp2
namespace Go.Proofs.YtkhcoefcifaaeaaDoor
open Go.RowKit

theorem still_w {P : Program} {ops : Array Oper} {w : World} {Q : Act → Prop} {o : Oper} {rest : List Oper} {a : Act} {v : Value} (hw : Region.wanted o (yielded ops a.tmps) = true)
    (hr : (execOp a.eval o).run P w = .ok (.value v) w) (h : wpStill P ops w Q rest (a.put o.dst v)) : wpStill P ops w Q (o :: rest) a := by
  unfold wpStill
  rw [if_pos hw]
  unfold Oper.still
  rw [hr, Oper.stillUpon_value]
  exact h

theorem still_skip {P : Program} {ops : Array Oper} {w : World} {Q : Act → Prop} {o : Oper} {rest : List Oper} {a : Act} (hw : Region.wanted o (yielded ops a.tmps) = false)
    (h : wpStill P ops w Q rest (a.put o.dst undef)) : wpStill P ops w Q (o :: rest) a := by
  unfold wpStill
  rw [if_neg (by rw [hw]; simp)]
  exact h

theorem exec_move {P : Program} {w : World} {o : Oper} {a : Act} (x : Operand) (ho : o.op = .move x) (v : Value) (hx : a.eval x = v) : (execOp a.eval o).run P w = .ok (.value v) w := by
  unfold execOp
  simp only [ho, hx, Sem.run_pure]

theorem run_loadId {w : World} {b off : Nat} {l : List UInt8} (hl : l.length = 32) (hc : w.rangeAt b off (l.map B)) : (loadVar 24 ⟨b, off, none⟩).run Tryd.prog w = .ok (.agg (idCells l)) w :=
  run_loadVar_mid (P := Tryd.prog) w b off 24 (l.map B) _ hc Tryd.underlying24 rfl (by rw [List.length_map, hl]; exact info_id)

theorem exec_loadId {w : World} {o : Oper} {a : Act} (x : Operand) (ho : o.op = .load 24 x) (b off : Nat) (l : List UInt8) (hl : l.length = 32) (hx : a.eval x = .pointer (some ⟨b, off, none⟩)) (hc : w.rangeAt b off (l.map B)) :
    (execOp a.eval o).run Tryd.prog w = .ok (.value (.agg (idCells l))) w := by
  unfold execOp
  simp only [ho, hx, Instr.loadAt, Instr.sureAddr, Sem.run_bind, Sem.run_pure, Result.andThen_ok, run_loadId hl hc]

theorem exec_eqlId {w : World} {o : Oper} {a : Act} (x y : Operand) (r : TypeId) (ho : o.op = .binOp .eql 24 x y r) (l k : List UInt8) (hl : l.length = 32) (hk : k.length = 32) (hx : a.eval x = .agg (idCells l)) (hy : a.eval y = .agg (idCells k)) :
    (execOp a.eval o).run Tryd.prog w = .ok (.value (.bool (decide (l = k)))) w := by
  unfold execOp
  simp only [ho, hx, hy, Sem.run_bind, run_eqGuard_agg w _ _ _ _ _ _ noGuard_id, Result.andThen_ok, run_eql_struct, run_eqIds w hl hk, Sem.run_pure]

theorem exec_neqId {w : World} {o : Oper} {a : Act} (x y : Operand) (r : TypeId) (ho : o.op = .binOp .neq 24 x y r) (l k : List UInt8) (hl : l.length = 32) (hk : k.length = 32) (hx : a.eval x = .agg (idCells l)) (hy : a.eval y = .agg (idCells k)) :
    (execOp a.eval o).run Tryd.prog w = .ok (.value (.bool (!decide (l = k)))) w := by
  unfold execOp
  simp only [ho, hx, hy, Sem.run_bind, run_eqGuard_agg w _ _ _ _ _ _ noGuard_id, Result.andThen_ok, run_neq_struct, run_eqIds w hl hk, Sem.run_pure]

/-- The load of an id, plain. -/
theorem wl_load {w : World} {ops : Array Oper} {rest : List Oper} {o : Oper} {a : Act} {Q : Exit → Act → World → Prop} (hw : Region.wanted o (yielded ops a.tmps) = true) (x : Operand) (ho : o.op = .load 24 x)
    (b off : Nat) (l : List UInt8) (hl : l.length = 32) (hx : a.eval x = .pointer (some ⟨b, off, none⟩)) (hc : w.rangeAt b off (l.map B))
    (h : wpList Tryd.prog ops Q rest (a.put o.dst (.agg (idCells l))) w) : wpList Tryd.prog ops Q (o :: rest) a w := by
  unfold wpList
  rw [if_pos hw]
  exact .inl (by unfold Oper.wp; rw [exec_loadId x ho b off l hl hx hc]; exact h)

theorem IdAt.range {w : World} {g : Nat} {l : List UInt8} (h : IdAt w g l) : w.rangeAt g 0 (l.map B) := fun j v hj => by
  rw [List.getElem?_map] at hj
  have hjl : j < l.length := by
    rcases Nat.lt_or_ge j l.length with h | h
    · exact h
    · rw [List.getElem?_eq_none h] at hj; cases hj
  simp only [List.getElem?_eq_getElem hjl, Option.map_some, Option.some.injEq] at hj
  subst hj
  rw [Nat.zero_add, h.cell j (by have := h.1; omega)]
  simp [hjl]

theorem take_next_ids {l m : List (List UInt8)} {j : Nat} (h : l.take j = m.take j) (hl : j < l.length) (hm : j < m.length) (he : l.getD j [] = m.getD j []) : l.take (j + 1) = m.take (j + 1) := by
  rw [List.take_succ_eq_append_getElem hl, List.take_succ_eq_append_getElem hm, h]
  simp [hl, hm] at he
  rw [he]
theorem ne_of_ids {l m : List (List UInt8)} {j : Nat} (he : l.getD j [] ≠ m.getD j []) : l ≠ m := fun h => he (by rw [h])
theorem boolR {a b : Bool} (h : a = b) : Ending.returned (.bool a) = .returned (.bool b) := by rw [h]

set_option maxRecDepth 100000 in
set_option maxHeartbeats 1000000 in
theorem same_any (a : Option Addr) (n c : Nat) (l : List (List UInt8)) (b : Option Addr) (m d : Nat) (k : List (List UInt8)) (w : World) (ha : IdsAt w a n c l) (hb : IdsAt w b m d k) (hn : n ≤ 1000000000000) :
    Calls Tryd.prog 9 #[.slice a n c, .slice b m d] w fun e w' => e = .returned (.bool (decide (l = k))) ∧ Below w.heap.size w w' := by
  have hla := ha.1
  have hlb := hb.1
  by_cases hnm : n = m
  · subst hnm
    have HA := Lib.hid ha
    have HB := Lib.hid hb
    have HLA := Lib.hid hla
    have HLB := Lib.hid hlb
    have HI := Lib.hid (show l.take 0 = k.take 0 from rfl)
    have hnI : (n : Int) ≤ 1000000000000 := by omega
    clear ha hb hla hlb hn
    go_enter Tryd.func9, Tryd.ntmps9
    go_wp2
    go_loopg [5] n (fun g v5 W => ∃ j : Nat, Below w.heap.size w W ∧ v5 = .int .i64 j ∧ g + j = n ∧ Hid (l.take j = k.take j))
    case atStart => exact ⟨0, Below.refl _ _, rfl, rfl, HI⟩
    case round =>
      obtain ⟨j, hbw, rfl, hg, hinv⟩ := hrel
      have HG := Lib.hid hg
      have hj0 : (0 : Int) ≤ (j : Int) := by omega
      have hjI : (j : Int) ≤ (n : Int) := by omega
      by_cases hj : (j : Int) < (n : Int)
      · obtain ⟨ba, oa, rfl⟩ := HA.out.some_ (by omega)
        obtain ⟨bb, ob, rfl⟩ := HB.out.some_ (by omega)
        have HCA := Lib.hid ((HA.out.below hbw.drew).at_ j (by omega))
        have HCB := Lib.hid ((HB.out.below hbw.drew).at_ j (by omega))
        have HX := Lib.hid (getD_32 HA.out.2.2.2.1 (i := j) (by rw [HLA.out]; omega))
        have HY := Lib.hid (getD_32 HB.out.2.2.2.1 (i := j) (by rw [HLB.out]; omega))
        have hbd := hbw.drew
        clear hg
        go_wp2
        refine wp_region_still_lit (by kernel_rfl) (by kernel_rfl) ?_
        still_step
        still_step
        still_step
        refine still_w (by rfl) (exec_loadId _ rfl _ _ _ HX.out rfl HCA.out) ?_
        simp only [Act.put, List.setIfInBounds_toArray, List.set_cons_zero, List.set_cons_succ]
        still_step
        still_step
        still_step
        refine still_w (by rfl) (exec_loadId _ rfl _ _ _ HY.out rfl HCB.out) ?_
        simp only [Act.put, List.setIfInBounds_toArray, List.set_cons_zero, List.set_cons_succ]
        refine still_w (by rfl) (exec_neqId _ _ _ rfl _ _ HX.out HY.out rfl rfl) ?_
        simp only [Act.put, List.setIfInBounds_toArray, List.set_cons_zero, List.set_cons_succ]
        refine wpStill_nil ?_
        change Exit.then _ _ _ _ wr.drew
        generalize wr.drew = w2 at hbd ⊢
        by_cases he : l.getD j [] = k.getD j []
        · have HN := Lib.hid (take_next_ids hinv.out (by rw [HLA.out]; omega) (by rw [HLB.out]; omega) he)
          rw [decide_eq_true he]
          clear he
          go_wp2
          go_roundg (gk - 1)
          case measure => have := HG.out; omega
          case rel => exact ⟨j + 1, hbd, by go_num, by have := HG.out; omega, HN⟩
        · have HN := Lib.hid (show l ≠ k from ne_of_ids he)
          rw [decide_eq_false he]
          clear he
          go_wp2
          go_ret
          exact ⟨boolR (decide_eq_false HN.out).symm, hbd⟩
      · have HE := Lib.hid (show l = k by
          have h1 := hinv.out
          rw [List.take_of_length_le (by rw [HLA.out]; omega), List.take_of_length_le (by rw [HLB.out]; omega)] at h1
          exact h1)
        clear hg
        go_wp2
        go_ret
        exact ⟨boolR (decide_eq_true HE.out).symm, hbw⟩
  · have HE := Lib.hid (show l ≠ k from fun h => hnm (by rw [← hla, ← hlb, h]))
    have hd : ((n : Int) != (m : Int)) = true := by simp; omega
    clear ha hb hla hlb hn hnm
    go_enter Tryd.func9, Tryd.ntmps9
    go_wp2
    go_ret
    exact ⟨boolR (decide_eq_false HE.out).symm, Below.refl _ _⟩
#print axioms same_any
end Go.Proofs.YtkhcoefcifaaeaaDoor

namespace Go.Proofs.YtkhcoefcifaaeaaDoor
open Go.RowKit

theorem wl_ex {w : World} {ops : Array Oper} {rest : List Oper} {o : Oper} {a : Act} {Q : Exit → Act → World → Prop} {v : Value} (hw : Region.wanted o (yielded ops a.tmps) = true) (hr : (execOp a.eval o).run Tryd.prog w = .ok (.value v) w)
    (h : wpList Tryd.prog ops Q rest (a.put o.dst v) w) : wpList Tryd.prog ops Q (o :: rest) a w := by
  unfold wpList
  rw [if_pos hw]
  exact .inl (by unfold Oper.wp; rw [hr]; exact h)
theorem exec_build {w : World} {o : Oper} {a : Act} (t : TypeId) (parts : Array (Nat × Operand)) (ho : o.op = .build t parts) (cells : Array Value)
    (h : Tryd.prog.built t (parts.map fun (i, x) => (i, a.eval x)).toList = some cells) : (execOp a.eval o).run Tryd.prog w = .ok (.value (.agg cells)) w := by
  unfold execOp
  simp only [ho, Sem.run_bind, run_build w t _ cells h, Result.andThen_ok, Sem.run_pure]
theorem below_drewK {base : Nat} {w w' : World} (h : Below base w w') (n : Nat) : Below base w (w'.drewN n) := ⟨h.os, h.tape, h.output, h.size, h.block⟩
theorem ready_step {P : Program} {o : Oper} {a : Act} {w : World} {K : Act → World → Prop} {Q : Exit → Act → World → Prop} (h : o.wp P a w K Q) : o.wp P a w K Q := h
theorem B_one (l : List UInt8) : ∀ v ∈ l.map B, v.oneCell' = true := fun v hv => by
  obtain ⟨b, _, rfl⟩ := List.mem_map.1 hv
  rfl
/-- A name and an id. -/
abbrev RName : Type := List UInt8 × List UInt8
def rnL (x : RName) : List Value := .string (strB x.1) :: x.2.map B
theorem rnL_len {x : RName} (h : x.2.length = 32) : (rnL x).length = 33 := by simp [rnL, h]
theorem rnL_one (x : RName) : ∀ v ∈ rnL x, v.oneCell' = true := fun v hv => by
  rcases List.mem_cons.1 hv with rfl | hv
  · rfl
  · exact B_one _ v hv
def rnK : Kind RName := ⟨rnL, 33, fun x => x.2.length = 32, by decide, fun _ h => rnL_len h, fun x _ => rnL_one x⟩
/-- An update. -/
structure UpdV where
  kind : Nat
  name : List UInt8
  old : List UInt8
  new : List UInt8
abbrev zId : List UInt8 := idZero
instance : Inhabited UpdV := ⟨⟨0, [], zId, zId⟩⟩
def UpOk (u : UpdV) : Prop := u.kind < 256 ∧ u.old.length = 32 ∧ u.new.length = 32
def upL (u : UpdV) : List Value := [.int .u8 (u.kind : Int), .string (strB u.name)] ++ (u.old.map B ++ u.new.map B)
theorem upL_len {u : UpdV} (h : UpOk u) : (upL u).length = 66 := by simp [upL, h.2.1, h.2.2]
theorem upL_one (u : UpdV) : ∀ v ∈ upL u, v.oneCell' = true := fun v hv => by
  simp only [upL, List.mem_append, List.mem_cons, List.not_mem_nil, or_false] at hv
  rcases hv with (rfl | rfl) | hv | hv
  · rfl
  · rfl
  · exact B_one _ v hv
  · exact B_one _ v hv
def upK : Kind UpdV := ⟨upL, 66, UpOk, by decide, fun _ h => upL_len h, fun x _ => upL_one x⟩
/-- An entry of the log. -/
structure EntV where
  upd : UpdV
  note : List UInt8
instance : Inhabited EntV := ⟨⟨default, []⟩⟩
def enL (e : EntV) : List Value := upL e.upd ++ [.string (strB e.note)]
theorem enL_len {e : EntV} (h : UpOk e.upd) : (enL e).length = 67 := by simp [enL, upL_len h]
theorem enL_one (e : EntV) : ∀ v ∈ enL e, v.oneCell' = true := fun v hv => by
  rcases List.mem_append.1 hv with hv | hv
  · exact upL_one _ v hv
  · simp only [List.mem_cons, List.not_mem_nil, or_false] at hv
    subst hv; rfl
def enK : Kind EntV := ⟨enL, 67, fun e => UpOk e.upd, by decide, fun _ h => enL_len h, fun x _ => enL_one x⟩

/-- Branches, tags, the head, the log. -/
structure RefsV where
  br : List RName
  tg : List RName
  head : List UInt8
  at_ : List UInt8
  log : List EntV
def noRefs : RefsV := ⟨[], [], [], zId, []⟩
/-- Where the three slices lie. -/
structure RfS where
  ab : Option Addr
  nb : Nat
  cb : Nat
  ag : Option Addr
  ng : Nat
  cg : Nat
  al : Option Addr
  nl : Nat
  cl : Nat
def noS : RfS := ⟨none, 0, 0, none, 0, 0, none, 0, 0⟩
def rfL (S : RfS) (h a : List UInt8) : List Value := [.slice S.ab S.nb S.cb, .slice S.ag S.ng S.cg, .string (strB h)] ++ (a.map B ++ [.slice S.al S.nl S.cl])
def rfC (S : RfS) (h a : List UInt8) : Array Value := (rfL S h a).toArray
theorem rfL_len {S : RfS} {h a : List UInt8} (ha : a.length = 32) : (rfL S h a).length = 36 := by simp [rfL, ha]
theorem rfL_one (S : RfS) (h a : List UInt8) : ∀ v ∈ rfL S h a, v.oneCell' = true := fun v hv => by
  simp only [rfL, List.mem_append, List.mem_cons, List.not_mem_nil, or_false] at hv
  rcases hv with (rfl | rfl | rfl) | hv | rfl <;> first | rfl | exact B_one _ v hv
/-- They can be read. -/
structure RfIn (w : World) (S : RfS) (r : RefsV) : Prop where
  br : AtG rnK w S.ab S.nb S.cb r.br
  tg : AtG rnK w S.ag S.ng S.cg r.tg
  log : AtG enK w S.al S.nl S.cl r.log
  at_ : r.at_.length = 32
theorem RfIn.below {w w' : World} {S : RfS} {r : RefsV} (h : RfIn w S r) (hb : Below w.heap.size w w') : RfIn w' S r := ⟨h.br.below hb, h.tg.below hb, h.log.below hb, h.at_⟩
theorem RfIn.none (w : World) : RfIn w noS noRefs := ⟨AtG.nil, AtG.nil, AtG.nil, rfl⟩
abbrev NEf : TypeId := 58
abbrev EEf : TypeId := 52
abbrev UEf : TypeId := 50
abbrev REf : TypeId := 34
/-- They are a call's own. -/
structure RfOwn (w : World) (base : Nat) (S : RfS) (r : RefsV) : Prop where
  holds : Holds w base [hG rnK NEf (.slice S.ab S.nb S.cb) r.br, hG rnK NEf (.slice S.ag S.ng S.cg) r.tg, hG enK EEf (.slice S.al S.nl S.cl) r.log]
  okb : ∀ x ∈ r.br, rnK.ok x
  okg : ∀ x ∈ r.tg, rnK.ok x
  okl : ∀ x ∈ r.log, enK.ok x
  at_ : r.at_.length = 32
section
variable {w w' : World} {base : Nat} {S : RfS} {r : RefsV}
theorem RfOwn.br (h : RfOwn w base S r) : OwnG rnK NEf w base (.slice S.ab S.nb S.cb) r.br := ⟨h.holds.own (hG rnK NEf (.slice S.ab S.nb S.cb) r.br) (by simp), h.okb⟩
theorem RfOwn.tg (h : RfOwn w base S r) : OwnG rnK NEf w base (.slice S.ag S.ng S.cg) r.tg := ⟨h.holds.own (hG rnK NEf (.slice S.ag S.ng S.cg) r.tg) (by simp), h.okg⟩
theorem RfOwn.log (h : RfOwn w base S r) : OwnG enK EEf w base (.slice S.al S.nl S.cl) r.log := ⟨h.holds.own (hG enK EEf (.slice S.al S.nl S.cl) r.log) (by simp), h.okl⟩
theorem RfOwn.inn (h : RfOwn w base S r) : RfIn w S r := ⟨h.br.atG, h.tg.atG, h.log.atG, h.at_⟩
theorem RfOwn.below (h : RfOwn w base S r) (hb : Below w.heap.size w w') : RfOwn w' base S r := ⟨h.holds.below hb, h.okb, h.okg, h.okl, h.at_⟩
theorem RfOwn.mono {base' : Nat} (h : RfOwn w base S r) (hb : base' ≤ base) : RfOwn w base' S r := ⟨h.holds.mono hb, h.okb, h.okg, h.okl, h.at_⟩
end
-- the sizes
theorem infoNf : (Tryd.prog.info? NEf).map (fun i => (i.zero, i.size, i.bytes)) = some (some (.agg (rnL ([], zId)).toArray), 33, 48) := by kernel_rfl
theorem infoEf : (Tryd.prog.info? EEf).map (fun i => (i.zero, i.size, i.bytes)) = some (some (.agg (enL default).toArray), 67, 104) := by kernel_rfl
theorem infoUf : (Tryd.prog.info? UEf).map (fun i => (i.zero, i.size, i.bytes)) = some (some (.agg (upL default).toArray), 66, 88) := by kernel_rfl
theorem infoRf : (Tryd.prog.info? REf).map (fun i => (i.zero, i.size, i.bytes)) = some (some (.agg (rfC noS [] zId)), 36, 120) := by kernel_rfl
#print axioms RfOwn.inn
#print axioms infoRf
end Go.Proofs.YtkhcoefcifaaeaaDoor
