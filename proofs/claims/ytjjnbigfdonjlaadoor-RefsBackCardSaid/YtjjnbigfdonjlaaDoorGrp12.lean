/-
  Merged: RfLight, RfWas, RfMovedLaw.
-/
import Derived.Test.YtjjnbigfdonjlaaDoorRfTold
import Derived.Test.YtjjnbigfdonjlaaDoorGrp10
namespace Go.Proofs.YtjjnbigfdonjlaaDoor
open Go.RowKit

def LightV (r : RefsV) : Prop := r.br.length ≤ 80 ∧ r.tg.length ≤ 80 ∧ r.log.length ≤ 80 ∧ ∀ e ∈ r.log, e.upd.name.length ≤ 100 ∧ e.note.length ≤ 400
theorem en_nm {w : World} {b o n c j : Nat} {L : List EntV} (h : AtG enK w (some ⟨b, o, none⟩) n c L) (hj : j < n) : w.cell? ⟨b, o + j * 67 + 1, none⟩ = some (.string (strB (gd L j).upd.name)) := h.at_ j hj 1 _ rfl
theorem en_nt {w : World} {b o n c j : Nat} {L : List EntV} (h : AtG enK w (some ⟨b, o, none⟩) n c L) (hj : j < n) : w.cell? ⟨b, o + j * 67 + 66, none⟩ = some (.string (strB (gd L j).note)) := h.at_ j hj 66 _ (by
  have hok : UpOk (gd L j).upd := h.ok hj
  show (upL (gd L j).upd ++ [.string (strB (gd L j).note)])[66]? = _
  rw [List.getElem?_append_right (by rw [upL_len hok]; exact Nat.le_refl _), upL_len hok]
  rfl)
theorem LightV.few {w : World} {S : RfS} {r : RefsV} (h : LightV r) (hI : RfIn w S r) : RfFew S := by
  obtain ⟨h1, h2, h3, _⟩ := h
  have a1 := hI.br.1
  have a2 := hI.tg.1
  have a3 := hI.log.1
  exact ⟨by omega, by omega, by omega⟩
theorem LightV.len {r : RefsV} (h : LightV r) : RfLen r := fun e he => by have := h.2.2.2 e he; exact ⟨by omega, by omega⟩

set_option maxRecDepth 100000 in
set_option maxHeartbeats 4000000 in
theorem light_any (S : RfS) (r : RefsV) (w : World) (h : RfIn w S r) (q : Bool) (hq : q = true ↔ LightV r) :
    Calls Tryd.prog 5 #[.agg (rfC S r.head r.at_)] w fun e w' => e = .returned (.bool q) ∧ Below w.heap.size w w' := by
  have HAT := Lib.hid h.at_
  have HIN := Lib.hid h
  have a1 := h.br.1
  have a2 := h.tg.1
  have a3 := h.log.1
  have HQF : Hid (¬ LightV r → q = false) := Lib.hid (fun hn => by
    cases q
    · rfl
    · exact absurd (hq.1 rfl) hn)
  have HB0 := Lib.hid ((Below.refl w.heap.size w).alloc (Nat.le_refl _) (.cells (rfC S r.head r.at_) RREf))
  have HR0 := Lib.hid (show RowAt (w.alloc (.cells (rfC S r.head r.at_) RREf)) w.heap.size RREf (rfL S r.head r.at_) from heap_alloc_new w _)
  have c0 := rf_br HR0.out
  have c1 := rf_tg HR0.out
  have c4 := rf_log HAT.out HR0.out
  have HQ := Lib.hid hq
  clear h hq
  by_cases h1 : (80 : Int) < (S.nb : Int)
  · have hf := HQF.out (fun h => by have := h.1; omega)
    subst hf
    have d1 : decide (80 < S.nb) = true := decide_eq_true (by omega)
    clear a1 a2 a3
    go_enter Tryd.func5, Tryd.ntmps5
    go_wp2
    go_ret
    exact ⟨rfl, HB0.out⟩
  have d1 : decide (80 < S.nb) = false := decide_eq_false (by omega)
  by_cases h2 : (80 : Int) < (S.ng : Int)
  · have hf := HQF.out (fun h => by have := h.2.1; omega)
    subst hf
    have d2 : decide (80 < S.ng) = true := decide_eq_true (by omega)
    clear a1 a2 a3
    go_enter Tryd.func5, Tryd.ntmps5
    go_wp2
    go_ret
    exact ⟨rfl, HB0.out⟩
  have d2 : decide (80 < S.ng) = false := decide_eq_false (by omega)
  by_cases h3 : (80 : Int) < (S.nl : Int)
  · have hf := HQF.out (fun h => by have := h.2.2.1; omega)
    subst hf
    have d3 : decide (80 < S.nl) = true := decide_eq_true (by omega)
    clear a1 a2 a3
    go_enter Tryd.func5, Tryd.ntmps5
    go_wp2
    go_ret
    exact ⟨rfl, HB0.out⟩
  have d3 : decide (80 < S.nl) = false := decide_eq_false (by omega)
  have hlI : (S.nl : Int) ≤ 80 := by omega
  have HL80 : Hid (r.br.length ≤ 80 ∧ r.tg.length ≤ 80 ∧ r.log.length ≤ 80) := Lib.hid ⟨by omega, by omega, by omega⟩
  have HLN : Hid (r.log.length = S.nl) := Lib.hid a3
  clear a1 a2 a3
  go_enter Tryd.func5, Tryd.ntmps5
  go_wp2
  generalize w.alloc (.cells (rfC S r.head r.at_) RREf) = w0 at HB0 HR0 c0 c1 c4 ⊢
  go_loopg [3] S.nl (fun g v3 W => ∃ (i : Nat), v3 = .int .i64 i ∧ g + i = S.nl ∧ W = w0 ∧ Hid (∀ j, j < i → (gd r.log j).upd.name.length ≤ 100 ∧ (gd r.log j).note.length ≤ 400))
  case atStart => exact ⟨0, rfl, rfl, rfl, Lib.hid (fun j hj => absurd hj (Nat.not_lt_zero _))⟩
  case round =>
    obtain ⟨i, rfl, hg, rfl, HOK⟩ := hrel
    have HG := Lib.hid hg
    have hi0 : (0 : Int) ≤ (i : Int) := by omega
    have hiI : (i : Int) ≤ (S.nl : Int) := by omega
    by_cases hi : (i : Int) < (S.nl : Int)
    · have hin : i < S.nl := by omega
      have HI := Lib.hid hin
      obtain ⟨b, o, hab⟩ := HIN.out.log.some_ (by omega)
      have hat := (HIN.out.below HB0.out).log
      rw [hab] at hat c4
      obtain ⟨p, hp⟩ : ∃ p, strB (gd r.log i).upd.name = p := ⟨_, rfl⟩
      obtain ⟨y, hy⟩ : ∃ y, strB (gd r.log i).note = y := ⟨_, rfl⟩
      have cn := en_nm hat hin
      have ct := en_nt hat hin
      rw [hp] at cn
      rw [hy] at ct
      have HPS : Hid (p.size = (gd r.log i).upd.name.length) := Lib.hid (by rw [← hp, strB_size])
      have HYS : Hid (y.size = (gd r.log i).note.length) := Lib.hid (by rw [← hy, strB_size])
      have HMM : Hid (gd r.log i ∈ r.log) := Lib.hid (gd_mem (by rw [HLN.out]; exact hin))
      clear hg hp hy hat hab
      by_cases e1 : (100 : Int) < (p.size : Int)
      · have hf := HQF.out (fun h => by have := (h.2.2.2 _ HMM.out).1; have := HPS.out; omega)
        subst hf
        have d5 : decide (100 < p.size) = true := decide_eq_true (by omega)
        go_wp2
        go_ret
        exact ⟨rfl, HB0.out⟩
      have d5 : decide (100 < p.size) = false := decide_eq_false (by omega)
      by_cases e2 : (400 : Int) < (y.size : Int)
      · have hf := HQF.out (fun h => by have := (h.2.2.2 _ HMM.out).2; have := HYS.out; omega)
        subst hf
        have d6 : decide (400 < y.size) = true := decide_eq_true (by omega)
        go_wp2
        go_ret
        exact ⟨rfl, HB0.out⟩
      have d6 : decide (400 < y.size) = false := decide_eq_false (by omega)
      have HE1 := Lib.hid e1
      have HE2 := Lib.hid e2
      go_wp2
      go_roundg (S.nl - (i + 1))
      case measure => have := HG.out; have := HI.out; omega
      case rel =>
        exact ⟨i + 1, by go_num, by have := HI.out; omega, rfl, Lib.hid (fun j hj => by
          rcases Nat.lt_or_ge j i with h | h
          · exact HOK.out j h
          · obtain rfl : j = i := by omega
            have := HE1.out; have := HE2.out; have := HPS.out; have := HYS.out
            exact ⟨by omega, by omega⟩)⟩
    · have hiE : i = S.nl := by omega
      have hq : q = true := HQ.out.2 ⟨HL80.out.1, HL80.out.2.1, HL80.out.2.2, fun e he => by
        obtain ⟨j, hj, rfl⟩ := List.mem_iff_getElem.1 he
        have := HOK.out j (by have := HLN.out; omega)
        rwa [gd_is hj] at this⟩
      subst hq
      clear hg hiE
      go_wp2
      go_ret
      exact ⟨rfl, HB0.out⟩
#print axioms light_any
end Go.Proofs.YtjjnbigfdonjlaaDoor

namespace Go.Proofs.YtjjnbigfdonjlaaDoor
open Go.RowKit

def wasF (L : List RName) (s : List UInt8) : List UInt8 := L.foldl (fun a x => if x.1 = s then x.2 else a) idZero
theorem wasF_append (L M : List RName) (s : List UInt8) : wasF (L ++ M) s = M.foldl (fun a x => if x.1 = s then x.2 else a) (wasF L s) := by unfold wasF; rw [List.foldl_append]
theorem was_keep {s : List UInt8} : ∀ (M : List RName) (a : List UInt8), (∀ x ∈ M, x.1 ≠ s) → M.foldl (fun a x => if x.1 = s then x.2 else a) a = a
  | [], _, _ => rfl
  | x :: M, a, h => by
    rw [List.foldl_cons, if_neg (h x List.mem_cons_self)]
    exact was_keep M a fun y hy => h y (List.mem_cons_of_mem _ hy)
theorem wasF_none {L : List RName} {s : List UInt8} (h : ∀ x ∈ L, x.1 ≠ s) : wasF L s = idZero := was_keep L _ h
theorem wasF_mem {L : List RName} {s i : List UInt8} (h : Sorted L) (hm : (s, i) ∈ L) : wasF L s = i := by
  obtain ⟨A, B, rfl⟩ := List.append_of_mem hm
  rw [wasF_append, List.foldl_cons, if_pos rfl]
  refine was_keep B _ fun x hx e => ?_
  have h1 := (List.pairwise_append.1 h).2.1
  have := (List.pairwise_cons.1 h1).1 x hx
  rw [e] at this
  exact absurd this (List.lt_irrefl _)
theorem wasF_step {L : List RName} {s : List UInt8} (X : RName) : wasF (L ++ [X]) s = if X.1 = s then X.2 else wasF L s := by rw [wasF_append]; rfl
theorem wasF_len {L : List RName} {s : List UInt8} (h : ∀ x ∈ L, x.2.length = 32) : (wasF L s).length = 32 := by
  unfold wasF
  suffices ∀ (M : List RName) (a : List UInt8), (∀ x ∈ M, x.2.length = 32) → a.length = 32 → (M.foldl (fun a x => if x.1 = s then x.2 else a) a).length = 32 from this L _ h idZero_length
  intro M
  induction M with
  | nil => exact fun a _ h => h
  | cons x M ih =>
    intro a hx ha
    rw [List.foldl_cons]
    refine ih _ (fun y hy => hx y (List.mem_cons_of_mem _ hy)) ?_
    split
    · exact hx x List.mem_cons_self
    · exact ha
theorem there_none {L : List RName} {s : List UInt8} (h : Sorted L) (ht : thereF L s = false) : ∀ x ∈ L, x.1 ≠ s := by
  intro x hx e
  have hA := asc_sorted.2 h
  obtain ⟨j, hj, rfl⟩ := List.mem_iff_getElem.1 hx
  have h1 : ¬ j < findF L s := fun hlt => by
    have := (findF_iff hA s hj).2 hlt
    rw [gd_get hj, e] at this
    exact absurd this (List.lt_irrefl _)
  rcases Nat.lt_or_ge (findF L s) j with h2 | h2
  · have h3 := hA (findF L s) j h2 hj
    rw [gd_get hj, e] at h3
    have := (findF_iff hA s (j := findF L s) (by omega)).1 h3
    omega
  · have h4 : findF L s = j := by omega
    unfold thereF at ht
    rw [h4, gd_get hj, e] at ht
    simp [hj] at ht
theorem there_mem {L : List RName} {s : List UInt8} (ht : thereF L s = true) : (s, (gd L (findF L s)).2) ∈ L ∧ findF L s < L.length ∧ (gd L (findF L s)).1 = s := by
  unfold thereF at ht
  rw [Bool.and_eq_true, decide_eq_true_eq, decide_eq_true_eq] at ht
  obtain ⟨h1, h2⟩ := ht
  have : gd L (findF L s) ∈ L := by rw [gd_get h1]; exact List.getElem_mem h1
  refine ⟨?_, h1, h2⟩
  have e : (s, (gd L (findF L s)).2) = gd L (findF L s) := Prod.ext h2.symm rfl
  rw [e]; exact this
/-- A branch moves from where it is to where it shall be. -/
theorem moveF_was {L : List RName} {u : UpdV} (h : RightN L) (h0 : (moveF L u).2 = 0) : wasF L u.name = u.old ∧ wasF (moveF L u).1 u.name = u.new := by
  obtain ⟨h1, h2, h3⟩ := rightN_iff.1 h
  have hR := (rightN_iff.1 (moveF_right h h0)).2.2
  unfold moveF at h0 hR ⊢
  by_cases hn : nameF u.name = false
  · rw [if_pos hn] at h0; cases h0
  rw [if_neg hn] at h0 hR ⊢
  by_cases ho : (if thereF L u.name then (gd L (findF L u.name)).2 else idZero) ≠ u.old
  · rw [if_pos ho] at h0; cases h0
  rw [if_neg ho] at h0 hR ⊢
  have ho : (if thereF L u.name then (gd L (findF L u.name)).2 else idZero) = u.old := Classical.byContradiction ho
  by_cases ht : thereF L u.name = true
  · rw [if_pos ht] at h0 hR ho ⊢
    obtain ⟨m1, m2, m3⟩ := there_mem ht
    refine ⟨by rw [wasF_mem h3 m1, ho], ?_⟩
    by_cases hz : u.new = idZero
    · rw [if_pos hz, hz]
      refine wasF_none fun x hx e => ?_
      obtain ⟨j, hj, hjk, rfl⟩ := List.mem_eraseIdx_iff_getElem.1 hx
      have hA := asc_sorted.2 h3
      rcases Nat.lt_or_gt_of_ne hjk with hl | hl
      · have := hA j (findF L u.name) hl m2
        rw [gd_get hj, e, m3] at this
        exact absurd this (List.lt_irrefl _)
      · have := hA (findF L u.name) j hl hj
        rw [gd_get hj, e, m3] at this
        exact absurd this (List.lt_irrefl _)
    · rw [if_neg hz] at hR ⊢
      refine wasF_mem hR ?_
      rw [m3]
      exact List.mem_iff_getElem.2 ⟨findF L u.name, by simpa using m2, by simp⟩
  · rw [if_neg ht] at h0 hR ho ⊢
    have hN := there_none h3 (by simpa using ht)
    refine ⟨by rw [wasF_none hN, ho], ?_⟩
    by_cases hz : u.new = idZero
    · rw [if_pos hz, hz]; exact wasF_none hN
    · rw [if_neg hz] at h0 hR ⊢
      by_cases h64 : L.length = 64
      · rw [if_pos h64] at h0; cases h0
      · rw [if_neg h64] at hR ⊢
        exact wasF_mem hR (List.mem_append_right _ List.mem_cons_self)
/-- What Apply of one update of a branch comes to. -/
theorem one_branch {r : RefsV} {u : UpdV} (hk : u.kind = 1) (h0 : (applyF [] r [u]).2 = 0) :
    (applyF [] r [u]).1 = { r with br := (moveF r.br u).1, log := (logF r ⟨u, []⟩).log } ∧ (moveF r.br u).2 = 0 := by
  unfold applyF at h0 ⊢
  by_cases h1 : (oneR r u).2 = 0
  · rw [if_pos h1]
    unfold oneR at h1 ⊢
    rw [if_pos hk] at h1 ⊢
    unfold branchF at h1 ⊢
    split at h1
    · cases h1
    · rename_i hc
      rw [if_neg hc]
      exact ⟨rfl, h1⟩
  · rw [if_neg h1] at h0
    exact absurd h0 h1
theorem one_branch_no {r : RefsV} {u : UpdV} {n : List UInt8} (h0 : ¬ (applyF n r [u]).2 = 0) : (applyF n r [u]).1 = noRefs := by
  unfold applyF at h0 ⊢
  split at h0
  · exact absurd rfl h0
  · rename_i h1; rw [if_neg h1]
#print axioms moveF_was
end Go.Proofs.YtjjnbigfdonjlaaDoor

namespace Go.Proofs.YtjjnbigfdonjlaaDoor
open Go.RowKit

theorem size36r {S : RfS} {h a : List UInt8} (ha : a.length = 32) : (Tryd.prog.info? RREf).map (·.size) = some (rfL S h a).length := by rw [rfL_len ha]; kernel_rfl
theorem exec_loadRr {w : World} {o : Oper} {a : Act} (x : Operand) (ho : o.op = .load RREf x) (b : Nat) (S : RfS) (h m : List UInt8) (hm : m.length = 32) (hx : a.eval x = .pointer (some ⟨b, 0, none⟩)) (hc : RowAt w b RREf (rfL S h m)) :
    (execOp a.eval o).run Tryd.prog w = .ok (.value (.agg (rfC S h m))) w := by
  have hr := run_loadVar_mid (P := Tryd.prog) w b 0 RREf (rfL S h m) _ (fun i v hv => by rw [Nat.zero_add]; exact RowAt.cell hc i hv) Tryd.underlying27 rfl (size36r hm)
  unfold execOp
  simp only [ho, hx, Instr.loadAt, Instr.sureAddr, Sem.run_bind, Sem.run_pure, Result.andThen_ok, hr]
  rfl
theorem ne_id {w : World} {g g' : Nat} {E : TypeId} {cs : List Value} {l : List UInt8} (h : RowAt w g E cs) (hI : IdAt w g' l) (hE : E ≠ 24 := by decide) : some g ≠ some g' := fun e => by
  cases e
  have h2 := hI.2
  unfold RowAt at h
  rw [h] at h2
  simp only [Option.some.injEq, Obj.cells.injEq] at h2
  exact hE h2.2.1
theorem up_set1 (u : UpdV) : (upL u).set 0 (.int .u8 1) = upL { u with kind := 1 } := rfl
/-- What Apply of one update tells. -/
noncomputable def resF (qr : Bool) (r : RefsV) (u : UpdV) : RefsV × Nat := if qr && true then applyF [] r [u] else (noRefs, 1)
theorem apply_one (S : RfS) (r : RefsV) (a : Option Addr) (u : UpdV) (w : World) (h : RfIn w S r) (hs : RfLen r) (hL : AtG upK w a 1 1 [u]) (hT : Tabs w) (qr : Bool) (hq : qr = true ↔ RightV r) (Z : RefsV × Nat) (hZ : resF qr r u = Z) :
    Calls Tryd.prog 24 #[.agg (rfC S r.head r.at_), .slice a 1 1, .string ⟨#[]⟩] w (ApplyIs w Z) := by
  subst hZ
  exact apply_any S r a 1 1 [u] [] _ rfl w h hs hL (by decide) (by decide) hT qr true hq note3
theorem none_of {qr : Bool} {r : RefsV} {u : UpdV} {Z : RefsV × Nat} (h : resF qr r u = Z) (h0 : ¬ Z.2 = 0) : Z.1 = noRefs := by
  subst h
  unfold resF at h0 ⊢
  cases qr
  · rfl
  · exact one_branch_no h0
theorem good_of {qr : Bool} {r : RefsV} {u : UpdV} {Z : RefsV × Nat} (hq : qr = true ↔ RightV r) (h : resF qr r u = Z) (h0 : Z.2 = 0) (hk : u.kind = 1) : RightV r ∧ ∃ M lg, Z.1 = ⟨M, r.tg, r.head, r.at_, lg⟩ ∧ RightN M ∧ wasF r.br u.name = u.old ∧ wasF M u.name = u.new := by
  subst h
  unfold resF at h0 ⊢
  cases qr
  · exact absurd h0 (show ¬ (1 : Nat) = 0 by decide)
  · have hr := hq.1 rfl
    obtain ⟨h1, h2⟩ := one_branch (u := u) hk h0
    obtain ⟨h3, h4⟩ := moveF_was hr.1 h2
    exact ⟨hr, (moveF r.br u).1, (logF r ⟨u, []⟩).log, h1, moveF_right hr.1 h2, h3, h4⟩
/-- What stays while the law looks. -/
structure MvI (w W : World) (S S1 : RfS) (r s : RefsV) (v : UpdV) (g5 : Nat) : Prop where
  hb : Below w.heap.size w W
  hu : RowAt W (w.heap.size + 1) UEf (upL v)
  hr : RowAt W w.heap.size RREf (rfL S r.head r.at_)
  hz : RowAt W g5 REf (rfL S1 s.head s.at_)
  ho : RfOwn W w.heap.size S1 s
section
variable {w W W' : World} {S S1 : RfS} {r s : RefsV} {v : UpdV} {g5 g : Nat} {l : List UInt8}
theorem MvI.below (h : MvI w W S S1 r s v g5) (hb : Below W.heap.size W W') : MvI w W' S S1 r s v g5 := ⟨h.hb.trans (hb.mono h.hb.size), h.hu.below hb, h.hr.below hb, h.hz.below hb, h.ho.below hb⟩
theorem MvI.grown (h : MvI w W S S1 r s v g5) (hI : IdAt W g l) (hg : W.grownBy W' (some g)) (hge : w.heap.size ≤ g) : MvI w W' S S1 r s v g5 :=
  ⟨h.hb.grown hg h.hb.size (fun k hk => by cases hk; exact hge), h.hu.grown hg (ne_id h.hu hI), h.hr.grown hg (ne_id h.hr hI), h.hz.grown hg (ne_id h.hz hI), in_grownId h.ho hI hg⟩
end
theorem id_slot {w : World} {g : Nat} {l : List UInt8} (h : IdAt w g l) : w.rangeAt g 0 (l.map B) := h.range

end Go.Proofs.YtjjnbigfdonjlaaDoor
