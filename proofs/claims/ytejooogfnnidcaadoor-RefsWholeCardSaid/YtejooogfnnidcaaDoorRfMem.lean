/-
  Refs in memory: names with ids, updates, entries of the log, the whole.
-/
import Derived.Test.YtejooogfnnidcaaDoorRfAAll
import Derived.Test.YtejooogfnnidcaaDoorIdStep
namespace Go.Proofs.YtejooogfnnidcaaDoor
open Go.RowKit

theorem wl_ex {w : World} {ops : Array Oper} {rest : List Oper} {o : Oper} {a : Act} {Q : Exit → Act → World → Prop} {v : Value} (hw : Region.wanted o (yielded ops a.tmps) = true) (hr : (execOp a.eval o).run Tryd.prog w = .ok (.value v) w)
    (h : wpList Tryd.prog ops Q rest (a.put o.dst v) w) : wpList Tryd.prog ops Q (o :: rest) a w := by
  unfold wpList
  rw [if_pos hw]
  exact .inl (by unfold Oper.wp; rw [hr]; exact h)
theorem exec_build {w : World} {o : Oper} {a : Act} (t : TypeId) (parts : Array (Nat × Operand)) (ho : o.op = .build t parts) (cells : Array Value)
    (h : Tryd.prog.built t (parts.map fun (i, x) => (i, a.eval x)).toList = some cells) : (execOp a.eval o).run Tryd.prog w = .ok (.value (.agg cells)) w := by
  unfold execOp
  simp only [ho, Sem.run_bind, run_build w t _ cells h, Result.andThen_ok, Sem.run_pure]
theorem below_drewK {base : Nat} {w w' : World} (h : Below base w w') (n : Nat) : Below base w (w'.drewN n) := ⟨h.os, h.tape, h.output, h.size, h.block⟩
theorem ready_step {P : Program} {o : Oper} {a : Act} {w : World} {K : Act → World → Prop} {Q : Exit → Act → World → Prop} (h : o.wp P a w K Q) : o.wp P a w K Q := h
theorem B_one (l : List UInt8) : ∀ v ∈ l.map B, v.oneCell' = true := fun v hv => by
  obtain ⟨b, _, rfl⟩ := List.mem_map.1 hv
  rfl
/-- A name and an id. -/
abbrev RName : Type := List UInt8 × List UInt8
def rnL (x : RName) : List Value := .string (strB x.1) :: x.2.map B
theorem rnL_len {x : RName} (h : x.2.length = 32) : (rnL x).length = 33 := by simp [rnL, h]
theorem rnL_one (x : RName) : ∀ v ∈ rnL x, v.oneCell' = true := fun v hv => by
  rcases List.mem_cons.1 hv with rfl | hv
  · rfl
  · exact B_one _ v hv
def rnK : Kind RName := ⟨rnL, 33, fun x => x.2.length = 32, by decide, fun _ h => rnL_len h, fun x _ => rnL_one x⟩
/-- An update. -/
structure UpdV where
  kind : Nat
  name : List UInt8
  old : List UInt8
  new : List UInt8
abbrev zId : List UInt8 := idZero
instance : Inhabited UpdV := ⟨⟨0, [], zId, zId⟩⟩
def UpOk (u : UpdV) : Prop := u.kind < 256 ∧ u.old.length = 32 ∧ u.new.length = 32
def upL (u : UpdV) : List Value := [.int .u8 (u.kind : Int), .string (strB u.name)] ++ (u.old.map B ++ u.new.map B)
theorem upL_len {u : UpdV} (h : UpOk u) : (upL u).length = 66 := by simp [upL, h.2.1, h.2.2]
theorem upL_one (u : UpdV) : ∀ v ∈ upL u, v.oneCell' = true := fun v hv => by
  simp only [upL, List.mem_append, List.mem_cons, List.not_mem_nil, or_false] at hv
  rcases hv with (rfl | rfl) | hv | hv
  · rfl
  · rfl
  · exact B_one _ v hv
  · exact B_one _ v hv
def upK : Kind UpdV := ⟨upL, 66, UpOk, by decide, fun _ h => upL_len h, fun x _ => upL_one x⟩
/-- An entry of the log. -/
structure EntV where
  upd : UpdV
  note : List UInt8
instance : Inhabited EntV := ⟨⟨default, []⟩⟩
def enL (e : EntV) : List Value := upL e.upd ++ [.string (strB e.note)]
theorem enL_len {e : EntV} (h : UpOk e.upd) : (enL e).length = 67 := by simp [enL, upL_len h]
theorem enL_one (e : EntV) : ∀ v ∈ enL e, v.oneCell' = true := fun v hv => by
  rcases List.mem_append.1 hv with hv | hv
  · exact upL_one _ v hv
  · simp only [List.mem_cons, List.not_mem_nil, or_false] at hv
    subst hv; rfl
def enK : Kind EntV := ⟨enL, 67, fun e => UpOk e.upd, by decide, fun _ h => enL_len h, fun x _ => enL_one x⟩

/-- Branches, tags, the head, the log. -/
structure RefsV where
  br : List RName
  tg : List RName
  head : List UInt8
  at_ : List UInt8
  log : List EntV
def noRefs : RefsV := ⟨[], [], [], zId, []⟩
/-- Where the three slices lie. -/
structure RfS where
  ab : Option Addr
  nb : Nat
  cb : Nat
  ag : Option Addr
  ng : Nat
  cg : Nat
  al : Option Addr
  nl : Nat
  cl : Nat
def noS : RfS := ⟨none, 0, 0, none, 0, 0, none, 0, 0⟩
def rfL (S : RfS) (h a : List UInt8) : List Value := [.slice S.ab S.nb S.cb, .slice S.ag S.ng S.cg, .string (strB h)] ++ (a.map B ++ [.slice S.al S.nl S.cl])
def rfC (S : RfS) (h a : List UInt8) : Array Value := (rfL S h a).toArray
theorem rfL_len {S : RfS} {h a : List UInt8} (ha : a.length = 32) : (rfL S h a).length = 36 := by simp [rfL, ha]
theorem rfL_one (S : RfS) (h a : List UInt8) : ∀ v ∈ rfL S h a, v.oneCell' = true := fun v hv => by
  simp only [rfL, List.mem_append, List.mem_cons, List.not_mem_nil, or_false] at hv
  rcases hv with (rfl | rfl | rfl) | hv | rfl <;> first | rfl | exact B_one _ v hv
/-- They can be read. -/
structure RfIn (w : World) (S : RfS) (r : RefsV) : Prop where
  br : AtG rnK w S.ab S.nb S.cb r.br
  tg : AtG rnK w S.ag S.ng S.cg r.tg
  log : AtG enK w S.al S.nl S.cl r.log
  at_ : r.at_.length = 32
theorem RfIn.below {w w' : World} {S : RfS} {r : RefsV} (h : RfIn w S r) (hb : Below w.heap.size w w') : RfIn w' S r := ⟨h.br.below hb, h.tg.below hb, h.log.below hb, h.at_⟩
theorem RfIn.none (w : World) : RfIn w noS noRefs := ⟨AtG.nil, AtG.nil, AtG.nil, rfl⟩
abbrev NEf : TypeId := 56
abbrev EEf : TypeId := 59
abbrev UEf : TypeId := 53
abbrev REf : TypeId := 34
/-- They are a call's own. -/
structure RfOwn (w : World) (base : Nat) (S : RfS) (r : RefsV) : Prop where
  holds : Holds w base [hG rnK NEf (.slice S.ab S.nb S.cb) r.br, hG rnK NEf (.slice S.ag S.ng S.cg) r.tg, hG enK EEf (.slice S.al S.nl S.cl) r.log]
  okb : ∀ x ∈ r.br, rnK.ok x
  okg : ∀ x ∈ r.tg, rnK.ok x
  okl : ∀ x ∈ r.log, enK.ok x
  at_ : r.at_.length = 32
section
variable {w w' : World} {base : Nat} {S : RfS} {r : RefsV}
theorem RfOwn.br (h : RfOwn w base S r) : OwnG rnK NEf w base (.slice S.ab S.nb S.cb) r.br := ⟨h.holds.own (hG rnK NEf (.slice S.ab S.nb S.cb) r.br) (by simp), h.okb⟩
theorem RfOwn.tg (h : RfOwn w base S r) : OwnG rnK NEf w base (.slice S.ag S.ng S.cg) r.tg := ⟨h.holds.own (hG rnK NEf (.slice S.ag S.ng S.cg) r.tg) (by simp), h.okg⟩
theorem RfOwn.log (h : RfOwn w base S r) : OwnG enK EEf w base (.slice S.al S.nl S.cl) r.log := ⟨h.holds.own (hG enK EEf (.slice S.al S.nl S.cl) r.log) (by simp), h.okl⟩
theorem RfOwn.inn (h : RfOwn w base S r) : RfIn w S r := ⟨h.br.atG, h.tg.atG, h.log.atG, h.at_⟩
theorem RfOwn.below (h : RfOwn w base S r) (hb : Below w.heap.size w w') : RfOwn w' base S r := ⟨h.holds.below hb, h.okb, h.okg, h.okl, h.at_⟩
theorem RfOwn.mono {base' : Nat} (h : RfOwn w base S r) (hb : base' ≤ base) : RfOwn w base' S r := ⟨h.holds.mono hb, h.okb, h.okg, h.okl, h.at_⟩
end
-- the sizes
theorem infoNf : (Tryd.prog.info? NEf).map (fun i => (i.zero, i.size, i.bytes)) = some (some (.agg (rnL ([], zId)).toArray), 33, 48) := by kernel_rfl
theorem infoEf : (Tryd.prog.info? EEf).map (fun i => (i.zero, i.size, i.bytes)) = some (some (.agg (enL default).toArray), 67, 104) := by kernel_rfl
theorem infoUf : (Tryd.prog.info? UEf).map (fun i => (i.zero, i.size, i.bytes)) = some (some (.agg (upL default).toArray), 66, 88) := by kernel_rfl
theorem infoRf : (Tryd.prog.info? REf).map (fun i => (i.zero, i.size, i.bytes)) = some (some (.agg (rfC noS [] zId)), 36, 120) := by kernel_rfl
#print axioms RfOwn.inn
#print axioms infoRf
end Go.Proofs.YtejooogfnnidcaaDoor
