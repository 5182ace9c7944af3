/-
  Merged: RfLight, RfWas, RfMovedLaw.
-/
import Derived.Test.YthihmlojdopmfaaDoorRfTold
import Derived.Test.YthihmlojdopmfaaDoorGrp1
import Derived.Test.YthihmlojdopmfaaDoorGrp11
namespace Go.Proofs.YthihmlojdopmfaaDoor
open Go.RowKit

def LightV (r : RefsV) : Prop := r.br.length ≤ 80 ∧ r.tg.length ≤ 80 ∧ r.log.length ≤ 80 ∧ ∀ e ∈ r.log, e.upd.name.length ≤ 100 ∧ e.note.length ≤ 400
theorem en_nm {w : World} {b o n c j : Nat} {L : List EntV} (h : AtG enK w (some ⟨b, o, none⟩) n c L) (hj : j < n) : w.cell? ⟨b, o + j * 67 + 1, none⟩ = some (.string (strB (gd L j).upd.name)) := h.at_ j hj 1 _ rfl
theorem en_nt {w : World} {b o n c j : Nat} {L : List EntV} (h : AtG enK w (some ⟨b, o, none⟩) n c L) (hj : j < n) : w.cell? ⟨b, o + j * 67 + 66, none⟩ = some (.string (strB (gd L j).note)) := h.at_ j hj 66 _ (by
 have hok : UpOk (gd L j).upd := h.ok hj
 show (upL (gd L j).upd ++ [.string (strB (gd L j).note)])[66]? = _
 rw [List.getElem?_append_right (by rw [upL_len hok]; exact Nat.le_refl _), upL_len hok]
 rfl)
theorem LightV.few {w : World} {S : RfS} {r : RefsV} (h : LightV r) (hI : RfIn w S r) : RfFew S := by
 obtain ⟨h1, h2, h3, _⟩ := h
 have a1 := hI.br.1
 have a2 := hI.tg.1
 have a3 := hI.log.1
 exact ⟨by omega, by omega, by omega⟩
theorem LightV.len {r : RefsV} (h : LightV r) : RfLen r := fun e he => by have := h.2.2.2 e he; exact ⟨by omega, by omega⟩

set_option maxRecDepth 100000 in
set_option maxHeartbeats 4000000 in
theorem light_any (S : RfS) (r : RefsV) (w : World) (h : RfIn w S r) (q : Bool) (hq : q = true ↔ LightV r) :
  Calls Tryd.prog 4 #[.agg (rfC S r.head r.at_)] w fun e w' => e = .returned (.bool q) ∧ Below w.heap.size w w' := by
 have HAT := Lib.hid h.at_
 have HIN := Lib.hid h
 have a1 := h.br.1
 have a2 := h.tg.1
 have a3 := h.log.1
 have HQF : Hid (¬ LightV r → q = false) := Lib.hid (fun hn => by
  cases q
  ·rfl
  ·exact absurd (hq.1 rfl) hn)
 have HB0 := Lib.hid ((Below.refl w.heap.size w).alloc (Nat.le_refl _) (.cells (rfC S r.head r.at_) RREf))
 have HR0 := Lib.hid (show RowAt (w.alloc (.cells (rfC S r.head r.at_) RREf)) w.heap.size RREf (rfL S r.head r.at_) from heap_alloc_new w _)
 have c0 := rf_br HR0.out
 have c1 := rf_tg HR0.out
 have c4 := rf_log HAT.out HR0.out
 have HQ := Lib.hid hq
 clear h hq
 by_cases h1 : (80 : Int) < (S.nb : Int)
 ·have hf := HQF.out (fun h => by have := h.1; omega)
  subst hf
  have d1 : decide (80 < S.nb) = true := decide_eq_true (by omega)
  clear a1 a2 a3
  go_enter Tryd.func4, Tryd.ntmps4
  go_wp2
  go_ret
  exact ⟨rfl, HB0.out⟩
 have d1 : decide (80 < S.nb) = false := decide_eq_false (by omega)
 by_cases h2 : (80 : Int) < (S.ng : Int)
 ·have hf := HQF.out (fun h => by have := h.2.1; omega)
  subst hf
  have d2 : decide (80 < S.ng) = true := decide_eq_true (by omega)
  clear a1 a2 a3
  go_enter Tryd.func4, Tryd.ntmps4
  go_wp2
  go_ret
  exact ⟨rfl, HB0.out⟩
 have d2 : decide (80 < S.ng) = false := decide_eq_false (by omega)
 by_cases h3 : (80 : Int) < (S.nl : Int)
 ·have hf := HQF.out (fun h => by have := h.2.2.1; omega)
  subst hf
  have d3 : decide (80 < S.nl) = true := decide_eq_true (by omega)
  clear a1 a2 a3
  go_enter Tryd.func4, Tryd.ntmps4
  go_wp2
  go_ret
  exact ⟨rfl, HB0.out⟩
 have d3 : decide (80 < S.nl) = false := decide_eq_false (by omega)
 have hlI : (S.nl : Int) ≤ 80 := by omega
 have HL80 : Hid (r.br.length ≤ 80 ∧ r.tg.length ≤ 80 ∧ r.log.length ≤ 80) := Lib.hid ⟨by omega, by omega, by omega⟩
 have HLN : Hid (r.log.length = S.nl) := Lib.hid a3
 clear a1 a2 a3
 go_enter Tryd.func4, Tryd.ntmps4
 go_wp2
 generalize w.alloc (.cells (rfC S r.head r.at_) RREf) = w0 at HB0 HR0 c0 c1 c4 ⊢
 go_loopg [3] S.nl (fun g v3 W => ∃ (i : Nat), v3 = .int .i64 i ∧ g + i = S.nl ∧ W = w0 ∧ Hid (∀ j, j < i → (gd r.log j).upd.name.length ≤ 100 ∧ (gd r.log j).note.length ≤ 400))
 case atStart => exact ⟨0, rfl, rfl, rfl, Lib.hid (fun j hj => absurd hj (Nat.not_lt_zero _))⟩
 case round =>
  obtain ⟨i, rfl, hg, rfl, HOK⟩ := hrel
  have HG := Lib.hid hg
  have hi0 : (0 : Int) ≤ (i : Int) := by omega
  have hiI : (i : Int) ≤ (S.nl : Int) := by omega
  by_cases hi : (i : Int) < (S.nl : Int)
  ·have hin : i < S.nl := by omega
   have HI := Lib.hid hin
   obtain ⟨b, o, hab⟩ := HIN.out.log.some_ (by omega)
   have hat := (HIN.out.below HB0.out).log
   rw [hab] at hat c4
   obtain ⟨p, hp⟩ : ∃ p, strB (gd r.log i).upd.name = p := ⟨_, rfl⟩
   obtain ⟨y, hy⟩ : ∃ y, strB (gd r.log i).note = y := ⟨_, rfl⟩
   have cn := en_nm hat hin
   have ct := en_nt hat hin
   rw [hp] at cn
   rw [hy] at ct
   have HPS : Hid (p.size = (gd r.log i).upd.name.length) := Lib.hid (by rw [← hp, strB_size])
   have HYS : Hid (y.size = (gd r.log i).note.length) := Lib.hid (by rw [← hy, strB_size])
   have HMM : Hid (gd r.log i ∈ r.log) := Lib.hid (gd_mem (by rw [HLN.out]; exact hin))
   clear hg hp hy hat hab
   by_cases e1 : (100 : Int) < (p.size : Int)
   ·have hf := HQF.out (fun h => by have := (h.2.2.2 _ HMM.out).1; have := HPS.out; omega)
    subst hf
    have d5 : decide (100 < p.size) = true := decide_eq_true (by omega)
    go_wp2
    go_ret
    exact ⟨rfl, HB0.out⟩
   have d5 : decide (100 < p.size) = false := decide_eq_false (by omega)
   by_cases e2 : (400 : Int) < (y.size : Int)
   ·have hf := HQF.out (fun h => by have := (h.2.2.2 _ HMM.out).2; have := HYS.out; omega)
    subst hf
    have d6 : decide (400 < y.size) = true := decide_eq_true (by omega)
    go_wp2
    go_ret
    exact ⟨rfl, HB0.out⟩
   have d6 : decide (400 < y.size) = false := decide_eq_false (by omega)
   have HE1 := Lib.hid e1
   have HE2 := Lib.hid e2
   go_wp2
   go_roundg (S.nl - (i + 1))
   case measure => have := HG.out; have := HI.out; omega
   case rel =>
    exact ⟨i + 1, by go_num, by have := HI.out; omega, rfl, Lib.hid (fun j hj => by
     rcases Nat.lt_or_ge j i with h | h
     ·exact HOK.out j h
     ·obtain rfl : j = i := by omega
      have := HE1.out; have := HE2.out; have := HPS.out; have := HYS.out
      exact ⟨by omega, by omega⟩)⟩
  ·have hiE : i = S.nl := by omega
   have hq : q = true := HQ.out.2 ⟨HL80.out.1, HL80.out.2.1, HL80.out.2.2, fun e he => by
    obtain ⟨j, hj, rfl⟩ := List.mem_iff_getElem.1 he
    have := HOK.out j (by have := HLN.out; omega)
    rwa [gd_is hj] at this⟩
   subst hq
   clear hg hiE
   go_wp2
   go_ret
   exact ⟨rfl, HB0.out⟩
end Go.Proofs.YthihmlojdopmfaaDoor

namespace Go.Proofs.YthihmlojdopmfaaDoor
open Go.RowKit

def wasF (L : List RName) (s : List UInt8) : List UInt8 := L.foldl (fun a x => if x.1 = s then x.2 else a) idZero
end Go.Proofs.YthihmlojdopmfaaDoor

namespace Go.Proofs.YthihmlojdopmfaaDoor
open Go.RowKit

theorem size36r {S : RfS} {h a : List UInt8} (ha : a.length = 32) : (Tryd.prog.info? RREf).map (·.size) = some (rfL S h a).length := by rw [rfL_len ha]; kernel_rfl
theorem exec_loadRr {w : World} {o : Oper} {a : Act} (x : Operand) (ho : o.op = .load RREf x) (b : Nat) (S : RfS) (h m : List UInt8) (hm : m.length = 32) (hx : a.eval x = .pointer (some ⟨b, 0, none⟩)) (hc : RowAt w b RREf (rfL S h m)) :
  (execOp a.eval o).run Tryd.prog w = .ok (.value (.agg (rfC S h m))) w := by
 have hr := run_loadVar_mid (P := Tryd.prog) w b 0 RREf (rfL S h m) _ (fun i v hv => by rw [Nat.zero_add]; exact RowAt.cell hc i hv) Tryd.underlying27 rfl (size36r hm)
 unfold execOp
 simp only [ho, hx, Instr.loadAt, Instr.sureAddr, Sem.run_bind, Sem.run_pure, Result.andThen_ok, hr]
 rfl
theorem ne_id {w : World} {g g' : Nat} {E : TypeId} {cs : List Value} {l : List UInt8} (h : RowAt w g E cs) (hI : IdAt w g' l) (hE : E ≠ 24 := by decide) : some g ≠ some g' := fun e => by
 cases e
 have h2 := hI.2
 unfold RowAt at h
 rw [h] at h2
 simp only [Option.some.injEq, Obj.cells.injEq] at h2
 exact hE h2.2.1
noncomputable def resF (qr : Bool) (r : RefsV) (u : UpdV) : RefsV × Nat := if qr && true then applyF [] r [u] else (noRefs, 1)
structure MvI (w W : World) (S S1 : RfS) (r s : RefsV) (v : UpdV) (g5 : Nat) : Prop where
 hb : Below w.heap.size w W
 hu : RowAt W (w.heap.size + 1) UEf (upL v)
 hr : RowAt W w.heap.size RREf (rfL S r.head r.at_)
 hz : RowAt W g5 REf (rfL S1 s.head s.at_)
 ho : RfOwn W w.heap.size S1 s
section
variable {w W W' : World} {S S1 : RfS} {r s : RefsV} {v : UpdV} {g5 g : Nat} {l : List UInt8}
theorem MvI.below (h : MvI w W S S1 r s v g5) (hb : Below W.heap.size W W') : MvI w W' S S1 r s v g5 := ⟨h.hb.trans (hb.mono h.hb.size), h.hu.below hb, h.hr.below hb, h.hz.below hb, h.ho.below hb⟩
theorem MvI.grown (h : MvI w W S S1 r s v g5) (hI : IdAt W g l) (hg : W.grownBy W' (some g)) (hge : w.heap.size ≤ g) : MvI w W' S S1 r s v g5 :=
 ⟨h.hb.grown hg h.hb.size (fun k hk => by cases hk; exact hge), h.hu.grown hg (ne_id h.hu hI), h.hr.grown hg (ne_id h.hr hI), h.hz.grown hg (ne_id h.hz hI), in_grownId h.ho hI hg⟩
end
end Go.Proofs.YthihmlojdopmfaaDoor
