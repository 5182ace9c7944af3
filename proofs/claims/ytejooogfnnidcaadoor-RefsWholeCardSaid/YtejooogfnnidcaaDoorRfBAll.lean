/-
  Merged: RfZero, RfNames, RfLog, RfFind.
-/
import Derived.Test.YtejooogfnnidcaaDoorRfMem
import Derived.Test.YtejooogfnnidcaaDoorName
import Derived.Test.YtejooogfnnidcaaDoorIdFns
import Derived.Laws.Cover1
import Derived.Sort.Walk0
import Derived.Deep.RegionHeld
import Derived.Deep.LoopGhost
import Derived.Test.YtejooogfnnidcaaDoorAuthor
import Derived.Test.YtejooogfnnidcaaDoorRfShelf
import Derived.BigQuiet
namespace Go.Proofs.YtejooogfnnidcaaDoor
open Go.RowKit

theorem built_zid : Tryd.prog.built 24 [] = some (idCells idZero) := by kernel_rfl
theorem exec_zid {w : World} {o : Oper} {a : Act} (ho : o.op = .build 24 #[]) : (execOp a.eval o).run Tryd.prog w = .ok (.value (.agg (idCells idZero))) w := by
  refine exec_build _ _ ho _ ?_
  simpa using built_zid
theorem len_idZero : idZero.length = 32 := rfl
theorem zero_any (l : List UInt8) (hl : l.length = 32) (q : Bool) (hq : decide (l = idZero) = q) (w : World) :
    Calls Tryd.prog 58 #[.agg (idCells l)] w fun e w' => e = .returned (.bool q) ∧ Below w.heap.size w w' := by
  have HL := Lib.hid hl
  have HI := Lib.hid (idAt_new w l hl)
  have HQ := Lib.hid hq
  have HB := Lib.hid ((Below.refl w.heap.size w).alloc (Nat.le_refl _) (.cells (idCells l) 24))
  clear hl hq
  go_enter Tryd.func58, Tryd.ntmps58
  go_wp2_with (first
    | ((with_reducible show wpList _ _ _ (⟨some 3, _, _, _, _, _⟩ :: _) _ _); go_must (refine wl_load rfl _ rfl _ _ l HL.out rfl HI.out.range ?_))
    | ((with_reducible show wpList _ _ _ (⟨some 4, _, _, _, _, _⟩ :: _) _ _); go_must (refine wl_ex rfl (exec_zid rfl) ?_))
    | ((with_reducible show wpList _ _ _ (⟨some 5, _, _, _, _, _⟩ :: _) _ _); go_must (refine wl_ex rfl (exec_eqlId _ _ _ rfl l idZero HL.out len_idZero rfl rfl) ?_); rw [HQ.out]))
  go_ret
  exact ⟨rfl, HB.out⟩

theorem name_is (n : List UInt8) (q : Bool) (hq : nameF n = q) (w : World) : Calls Tryd.prog 57 #[.string (strB n)] w fun e w' => e = .returned (.bool q) ∧ Below w.heap.size w w' := by
  have h := name_any (strB n) w
  rw [strB_list, hq] at h
  exact h
/-- May a head be? -/
def headF (h a : List UInt8) : Bool := if h = [] then !decide (a = idZero) else nameF h && decide (a = idZero)
theorem strB_nil (h : List UInt8) : ((strB h).toList == []) = decide (h = []) := by
  rw [Lib.toList_data, strB_list]
  cases h <;> rfl
theorem head_any (h a : List UInt8) (ha : a.length = 32) (q : Bool) (hq : headF h a = q) (w : World) :
    Calls Tryd.prog 35 #[.string (strB h), .agg (idCells a)] w fun e w' => e = .returned (.bool q) ∧ Below w.heap.size w w' := by
  have HL := Lib.hid ha
  have HI := Lib.hid (idAt_new w a ha)
  have HB := Lib.hid ((Below.refl w.heap.size w).alloc (Nat.le_refl _) (.cells (idCells a) 24))
  obtain ⟨z, hz⟩ : ∃ z, decide (a = idZero) = z := ⟨_, rfl⟩
  obtain ⟨m, hm⟩ : ∃ m, nameF h = m := ⟨_, rfl⟩
  have HZ := Lib.hid (fun W => zero_any a ha z hz W)
  have HN := Lib.hid (fun W => name_is h m hm W)
  unfold headF at hq
  rw [hz, hm] at hq
  obtain ⟨p, hp⟩ : ∃ p, strB h = p := ⟨_, rfl⟩
  by_cases he : h = []
  · rw [if_pos he] at hq
    have d0 : (p.toList == []) = true := by rw [← hp, strB_nil, decide_eq_true he]
    rw [hp] at HN ⊢
    have HQ := Lib.hid hq
    clear ha hz hm hq hp he
    go_enter Tryd.func35, Tryd.ntmps35
    go_wp2_with (first
      | ((with_reducible show wpList _ _ _ (⟨some 7, _, _, _, _, _⟩ :: _) _ _); go_must (refine wl_load rfl _ rfl _ _ a HL.out rfl HI.out.range ?_))
      | (go_at_call 58; go_must (refine (HZ.out _).mono ?_); rintro e w2 ⟨rfl, hb2⟩))
    go_ret
    exact ⟨by rw [← HQ.out]; rfl, Below.trans HB.out (hb2.mono HB.out.size)⟩
  · rw [if_neg he] at hq
    have d0 : (p.toList == []) = false := by rw [← hp, strB_nil, decide_eq_false he]
    rw [hp] at HN ⊢
    have HQ := Lib.hid hq
    clear ha hz hm hq hp he
    cases m
    · go_enter Tryd.func35, Tryd.ntmps35
      go_wp2_with (go_at_call 57; go_must (refine (HN.out _).mono ?_); rintro e w2 ⟨rfl, hb2⟩)
      go_ret
      exact ⟨by rw [← HQ.out]; rfl, Below.trans HB.out (hb2.mono HB.out.size)⟩
    · go_enter Tryd.func35, Tryd.ntmps35
      go_wp2_with (first
        | (go_at_call 57; go_must (refine (HN.out _).mono ?_); rintro e w2 ⟨rfl, hb2⟩; have HI2 := Lib.hid (HI.out.below hb2); have HB2 := Lib.hid (Below.trans HB.out (hb2.mono HB.out.size)); clear hb2)
        | ((with_reducible show wpList _ _ _ (⟨some 13, _, _, _, _, _⟩ :: _) _ _); go_must (refine wl_load rfl _ rfl _ _ a HL.out rfl HI2.out.range ?_))
        | (go_at_call 58; go_must (refine (HZ.out _).mono ?_); rintro e w3 ⟨rfl, hb3⟩))
      go_ret
      exact ⟨by rw [← HQ.out]; rfl, Below.trans HB2.out (hb3.mono HB2.out.size)⟩
#print axioms head_any
end Go.Proofs.YtejooogfnnidcaaDoor

namespace Go.Proofs.YtejooogfnnidcaaDoor
open Go.RowKit

def RightN (L : List RName) : Prop := L.length ≤ 64 ∧ (∀ x ∈ L, nameF x.1 = true ∧ x.2 ≠ idZero) ∧ ∀ j, j + 1 < L.length → (gd L j).1 < (gd L (j + 1)).1
/-- So far. -/
def NOk (L : List RName) (i : Nat) : Prop := (∀ j, j < i → nameF (gd L j).1 = true ∧ (gd L j).2 ≠ idZero) ∧ ∀ j, j + 1 < i → (gd L j).1 < (gd L (j + 1)).1
theorem NOk.first {L : List RName} {X : RName} (_ : NOk L 0) (h1 : nameF X.1 = true) (h2 : ¬ X.2 = idZero) (hX : X = gd L 0) : NOk L (0 + 1) := by
  subst hX
  refine ⟨fun j hj => ?_, fun j hj => by omega⟩
  obtain rfl : j = 0 := by omega
  exact ⟨h1, h2⟩
theorem NOk.more {L : List RName} {X : RName} {j : Nat} (h : NOk L (j + 1)) (h1 : nameF X.1 = true) (h2 : ¬ X.2 = idZero) (hX : X = gd L (j + 1)) (hl : (gd L j).1 < X.1) : NOk L (j + 1 + 1) := by
  subst hX
  refine ⟨fun k hk => ?_, fun k hk => ?_⟩
  · rcases Nat.lt_or_ge k (j + 1) with h3 | h3
    · exact h.1 k h3
    · obtain rfl : k = j + 1 := by omega
      exact ⟨h1, h2⟩
  · rcases Nat.lt_or_ge (k + 1) (j + 1) with h3 | h3
    · exact h.2 k h3
    · obtain rfl : k = j := by omega
      exact hl
theorem NOk.all {L : List RName} (h : NOk L L.length) (hl : L.length ≤ 64) : RightN L := by
  refine ⟨hl, fun x hx => ?_, h.2⟩
  obtain ⟨j, hj, rfl⟩ := List.mem_iff_getElem.1 hx
  have := h.1 j hj
  have e : gd L j = L[j] := by unfold gd; simp [hj]
  rwa [e] at this
theorem RightN.step {L : List RName} {X : RName} {j n : Nat} (h : RightN L) (hi : j + 1 < n) (hX : X = gd L (j + 1)) (hn : L.length = n) : (gd L j).1 < X.1 := by
  subst hX
  exact h.2.2 j (by omega)
theorem rn_name {w : World} {b o n c j : Nat} {L : List RName} (h : AtG rnK w (some ⟨b, o, none⟩) n c L) (hj : j < n) : w.cell? ⟨b, o + j * 33, none⟩ = some (.string (strB (gd L j).1)) := by
  have := h.at_ j hj 0 _ (show (rnK.cells (gd L j))[0]? = some (.string (strB (gd L j).1)) from rfl)
  exact this
theorem rn_id {w : World} {b o n c j : Nat} {L : List RName} (h : AtG rnK w (some ⟨b, o, none⟩) n c L) (hj : j < n) : w.rangeAt b (o + j * 33 + 1) ((gd L j).2.map B) := fun i v hv => by
  have := h.at_ j hj (i + 1) v (by show (rnL (gd L j))[i + 1]? = some v; unfold rnL; rw [List.getElem?_cons_succ]; exact hv)
  have e : rnK.k = 33 := rfl
  rw [e] at this
  rw [show o + j * 33 + 1 + i = o + j * 33 + (i + 1) from by omega]
  exact this
theorem size33 {X : RName} (h : X.2.length = 32) : (Tryd.prog.info? NEf).map (·.size) = some (rnL X).length := by rw [rnL_len h]; kernel_rfl
theorem exec_loadRn {w : World} {o : Oper} {a : Act} (x : Operand) (ho : o.op = .load NEf x) (b off : Nat) (X : RName) (hX : X.2.length = 32) (hx : a.eval x = .pointer (some ⟨b, off, none⟩)) (hc : w.rangeAt b off (rnL X)) :
    (execOp a.eval o).run Tryd.prog w = .ok (.value (.agg (rnL X).toArray)) w := by
  have hr := run_loadVar_mid (P := Tryd.prog) w b off NEf (rnL X) _ hc Tryd.underlying56 rfl (size33 hX)
  unfold execOp
  simp only [ho, hx, Instr.loadAt, Instr.sureAddr, Sem.run_bind, Sem.run_pure, Result.andThen_ok, hr]
/-- A struct stored into a block that was made just now. -/
theorem store_new {E : TypeId} {vs : List Value} (hk : (Tryd.prog.info? E).map (·.size) = some vs.length) (h1 : ∀ v ∈ vs, v.oneCell' = true) {w : World} {cs : Array Value} (hcs : cs.size = vs.length) {ops : Array Oper} {rest : List Oper} {o : Oper} {a : Act} {Q : Exit → Act → World → Prop} (hgd : o.guard = none) (x y : Operand) (ho : o.op = .store E x y)
    (hx : a.eval x = .pointer (some ⟨w.heap.size, 0, none⟩)) (hy : a.eval y = .agg vs.toArray)
    (h : ∀ W, RowAt W w.heap.size E vs → Below w.heap.size w W → W.heap.size = w.heap.size + 1 → wpList Tryd.prog ops Q rest (a.put o.dst undef) W) : wpList Tryd.prog ops Q (o :: rest) a (w.alloc (.cells cs E)) := by
  have hg := heap_alloc_new w (.cells cs E)
  have hs : vs.toArray.size = vs.length := by simp
  refine wpList_store_row hgd E x y ho w.heap.size vs.toArray hx hy E cs hg (by rw [hs]; exact hk) (by rw [hs, hcs]) ?_ (h _ (setRow_heap _ _ cs vs.toArray _ _ hg) ?_ ?_)
  · rw [Array.all_eq_true_iff_forall_mem]
    intro v hv
    exact h1 v (by simpa using hv)
  · refine ⟨rfl, rfl, rfl, by simp [World.setRow], fun k hk => ?_⟩
    unfold World.setRow
    rw [Array.getElem?_modify, if_neg (by omega)]
    exact heap_alloc_old (h := hk) ..
  · simp [World.setRow]
theorem row_id {w : World} {g : Nat} {E : TypeId} {X : RName} (h : RowAt w g E (rnL X)) : w.rangeAt g 1 (X.2.map B) := by
  have := h.range (l := [.string (strB X.1)]) (m := X.2.map B) (r := []) (by simp [rnL])
  exact this
theorem less_is (a b : List UInt8) : Op.bytesLess (strB a).toList (strB b).toList = decide (a < b) := by
  rw [bytesLess_eq, ByteArray.toList_eq, ByteArray.toList_eq, strB_list, strB_list]

set_option maxRecDepth 100000 in
set_option maxHeartbeats 2000000 in
theorem names_any (a : Option Addr) (n c : Nat) (L : List RName) (w : World) (h : AtG rnK w a n c L) (q : Bool) (hq : q = true ↔ RightN L) :
    Calls Tryd.prog 34 #[.slice a n c] w fun e w' => e = .returned (.bool q) ∧ Below w.heap.size w w' := by
  have HLN := Lib.hid h.1
  have HN := Lib.hid h
  have HQ := Lib.hid hq
  have HF := Lib.hid (show ¬ RightN L → q = false from fun h => by
    cases q
    · rfl
    · exact absurd (HQ.out.1 rfl) h)
  have hnM : (n : Int) ≤ 9223372036854775807 := by have := h.2.1; have := h.2.2.1; omega
  clear hq
  by_cases h64 : (64 : Int) < (n : Int)
  · have d64 : decide (64 < n) = true := decide_eq_true (by omega)
    have HQ2 := Lib.hid (HF.out (fun h2 => by have := h2.1; have := HLN.out; omega))
    clear h
    go_enter Tryd.func34, Tryd.ntmps34
    go_wp2
    go_ret
    exact ⟨boolR HQ2.out.symm, Below.refl _ _⟩
  have hnI : (n : Int) ≤ 64 := by omega
  have HNI := Lib.hid hnI
  have d64 : decide (64 < n) = false := decide_eq_false (by omega)
  clear h h64
  go_enter Tryd.func34, Tryd.ntmps34
  go_wp2
  go_loopg [10] n (fun g v10 W => ∃ i : Nat, v10 = .int .i64 i ∧ g + i = n ∧ Hid (Below w.heap.size w W) ∧ Hid (NOk L i))
  case atStart => exact ⟨0, rfl, rfl, Lib.hid (Below.refl _ _), Lib.hid ⟨fun j hj => absurd hj (Nat.not_lt_zero _), fun j hj => absurd hj (Nat.not_lt_zero _)⟩⟩
  case round =>
    obtain ⟨i, rfl, hg, HB, HOK⟩ := hrel
    have HG := Lib.hid hg
    have hi0 : (0 : Int) ≤ (i : Int) := by omega
    have hiI : (i : Int) ≤ (n : Int) := by omega
    by_cases hi : (i : Int) < (n : Int)
    · have hin : i < n := by omega
      have HI := Lib.hid hin
      obtain ⟨b, o, rfl⟩ := HN.out.some_ (by omega)
      obtain ⟨X, hX⟩ : ∃ X, X = gd L i := ⟨_, rfl⟩
      have HXI : Hid (X.2.length = 32) := Lib.hid (hX ▸ HN.out.ok hin)
      have HXE := Lib.hid hX
      have HXM : Hid (X ∈ L) := Lib.hid (by rw [hX]; exact gd_mem (by rw [HLN.out]; exact hin))
      have HXR : Hid (wr.rangeAt b (o + i * 33) (rnL X)) := Lib.hid (hX ▸ (HN.out.below HB.out).at_ i hin)
      obtain ⟨p, hp⟩ : ∃ p, strB X.1 = p := ⟨_, rfl⟩
      have HPE := Lib.hid hp
      obtain ⟨m, hm⟩ : ∃ m, nameF X.1 = m := ⟨_, rfl⟩
      obtain ⟨z, hz⟩ : ∃ z, decide (X.2 = idZero) = z := ⟨_, rfl⟩
      have HNM := Lib.hid (fun W => hp ▸ name_is X.1 m hm W)
      have HZE := Lib.hid (fun W => zero_any X.2 HXI.out z hz W)
      have HME := Lib.hid hm
      have HZI := Lib.hid hz
      clear hg hX hp hm hz
      go_wp2_with (first
        | ((with_reducible show wpList _ _ _ (⟨some 14, _, _, _, _, _⟩ :: _) _ _); go_must (refine wl_ex rfl (exec_loadRn _ rfl _ _ X HXI.out rfl HXR.out) ?_))
        | ((with_reducible show wpList _ _ _ (⟨_, Op.store _ (.tmp 4) _, _, _, _, _⟩ :: _) _ _); go_must (refine store_new (vs := rnL X) (size33 HXI.out) (rnL_one X) (by rw [rnL_len HXI.out]; rfl) rfl _ _ rfl rfl rfl ?_); intro W4 hk4 hb4 hs4; have HBW := Lib.hid (HB.out.trans (hb4.mono HB.out.size)); have HK4 := Lib.hid hk4; generalize wr.heap.size = g4 at hk4 hs4 HK4 ⊢; clear hk4 hb4 hs4))
      have HCP := Lib.hid (fun W (hW : Below W4.heap.size W4 W) => (show W.cell? ⟨g4, 0, none⟩ = some (.string p) from by rw [← HPE.out]; exact (HK4.out.below hW).cell 0 rfl))
      have HCI := Lib.hid (fun W (hW : Below W4.heap.size W4 W) => row_id (HK4.out.below hW))
      have HBd : Hid (Below W4.heap.size W4 W4.drew) := Lib.hid (Below.refl _ _).drew
      have hi00 := hi0
      refine wp_region_held_drew (S := fun W => Below W4.heap.size W4 W) (by kernel_rfl) HBd.out (fun hHeld => ?_)
      refine wpAnyH_take (i := 0) (oi := ⟨some 15, .fieldAddr 56 (.tmp 4) 0, _, _, _, _⟩) (v := (.pointer (some ⟨g4, 0, none⟩))) rfl (by kernel_rfl) (by kernel_rfl) (by kernel_rfl) (fun _ _ _ h => h) (Or.inl ⟨by rfl, fun W hW => by go_simp⟩) (by assumption) ?_
      simp only [Act.put, List.setIfInBounds_toArray, List.set_cons_zero, List.set_cons_succ]
      refine wpAnyH_take (i := 1) (oi := ⟨some 16, .load 9 (.tmp 15), _, _, _, _⟩) (v := (.string p)) rfl (by kernel_rfl) (by kernel_rfl) (by kernel_rfl) (fun _ _ _ h => h) (Or.inl ⟨by rfl, fun W hW => by have hcell := HCP.out W hW; go_simp⟩) (by assumption) ?_
      simp only [Act.put, List.setIfInBounds_toArray, List.set_cons_zero, List.set_cons_succ]
      refine wpAnyH_ready (rs := [2]) (by kernel_rfl) (by simp) ?_
      refine AllReadyH.cons (o := ⟨some 17, .call { callee := .value (.func 57), args := #[(.tmp 16)], argTypes := #[9] }, _, _, _, _⟩) rfl (fun K hK => ?_) AllReadyH.nil
      go_simp
      go_wp2_with (go_at_call 57; go_must (refine (HNM.out _).mono ?_); rintro e w6 ⟨rfl, hb6⟩; have HX1 := Lib.hid (HBd.out.trans (hb6.mono HBd.out.size)); clear hb6)
      refine hK.out _ _ HX1.out (fun hHeld => ?_)
      clear hK K
      cases m
      · refine wpAnyH_take (i := 3) (oi := ⟨some 18, .unOp .not 4 (.tmp 17), _, _, _, _⟩) (v := (.bool true)) rfl (by kernel_rfl) (by kernel_rfl) (by kernel_rfl) (fun _ _ _ h => h) (Or.inl ⟨by rfl, fun W hW => by go_simp⟩) (by assumption) ?_
        simp only [Act.put, List.setIfInBounds_toArray, List.set_cons_zero, List.set_cons_succ]
        refine wpAnyH_take (i := 4) (oi := ⟨some 19, .move (.tmp 18), _, _, _, _⟩) (v := (.bool true)) rfl (by kernel_rfl) (by kernel_rfl) (by kernel_rfl) (fun _ _ _ h => h) (Or.inl ⟨by rfl, fun W hW => by go_simp⟩) (by assumption) ?_
        simp only [Act.put, List.setIfInBounds_toArray, List.set_cons_zero, List.set_cons_succ]
        refine wpAnyH_take (i := 5) (oi := ⟨some 20, .fieldAddr 56 (.tmp 4) 1, _, _, _, _⟩) (v := undef) rfl (by kernel_rfl) (by kernel_rfl) (by kernel_rfl) (fun _ _ _ h => h) (Or.inr ⟨by rfl, rfl⟩) (by assumption) ?_
        simp only [Act.put, List.setIfInBounds_toArray, List.set_cons_zero, List.set_cons_succ]
        refine wpAnyH_take (i := 6) (oi := ⟨some 21, .load 24 (.tmp 20), _, _, _, _⟩) (v := undef) rfl (by kernel_rfl) (by kernel_rfl) (by kernel_rfl) (fun _ _ _ h => h) (Or.inr ⟨by rfl, rfl⟩) (by assumption) ?_
        simp only [Act.put, List.setIfInBounds_toArray, List.set_cons_zero, List.set_cons_succ]
        refine wpAnyH_take (i := 7) (oi := ⟨some 22, .call { callee := .value (.func 58), args := #[(.tmp 21)], argTypes := #[24] }, _, _, _, _⟩) (v := undef) rfl (by kernel_rfl) (by kernel_rfl) (by kernel_rfl) (fun _ _ _ h => h) (Or.inr ⟨by rfl, rfl⟩) (by assumption) ?_
        simp only [Act.put, List.setIfInBounds_toArray, List.set_cons_zero, List.set_cons_succ]
        refine wpAnyH_take (i := 8) (oi := ⟨some 23, .pick (.tmp 19) (.const (.bool true)) (.tmp 22), _, _, _, _⟩) (v := (.bool true)) rfl (by kernel_rfl) (by kernel_rfl) (by kernel_rfl) (fun _ _ _ h => h) (Or.inl ⟨by rfl, fun W hW => by go_simp⟩) (by assumption) ?_
        simp only [Act.put, List.setIfInBounds_toArray, List.set_cons_zero, List.set_cons_succ]
        refine wpAnyH_take (i := 9) (oi := ⟨some 24, .move (.tmp 23), _, _, _, _⟩) (v := (.bool true)) rfl (by kernel_rfl) (by kernel_rfl) (by kernel_rfl) (fun _ _ _ h => h) (Or.inl ⟨by rfl, fun W hW => by go_simp⟩) (by assumption) ?_
        simp only [Act.put, List.setIfInBounds_toArray, List.set_cons_zero, List.set_cons_succ]
        refine wpAnyH_take (i := 10) (oi := ⟨some 25, .move (.tmp 3), _, _, _, _⟩) (v := undef) rfl (by kernel_rfl) (by kernel_rfl) (by kernel_rfl) (fun _ _ _ h => h) (Or.inr ⟨by rfl, rfl⟩) (by assumption) ?_
        simp only [Act.put, List.setIfInBounds_toArray, List.set_cons_zero, List.set_cons_succ]
        refine wpAnyH_take (i := 11) (oi := ⟨some 26, .binOp .gtr 3 (.tmp 25) (.const (.int .i64 0)) 3, _, _, _, _⟩) (v := undef) rfl (by kernel_rfl) (by kernel_rfl) (by kernel_rfl) (fun _ _ _ h => h) (Or.inr ⟨by rfl, rfl⟩) (by assumption) ?_
        simp only [Act.put, List.setIfInBounds_toArray, List.set_cons_zero, List.set_cons_succ]
        refine wpAnyH_take (i := 12) (oi := ⟨some 27, .move (.tmp 26), _, _, _, _⟩) (v := undef) rfl (by kernel_rfl) (by kernel_rfl) (by kernel_rfl) (fun _ _ _ h => h) (Or.inr ⟨by rfl, rfl⟩) (by assumption) ?_
        simp only [Act.put, List.setIfInBounds_toArray, List.set_cons_zero, List.set_cons_succ]
        refine wpAnyH_take (i := 13) (oi := ⟨some 28, .move (.tmp 0), _, _, _, _⟩) (v := undef) rfl (by kernel_rfl) (by kernel_rfl) (by kernel_rfl) (fun _ _ _ h => h) (Or.inr ⟨by rfl, rfl⟩) (by assumption) ?_
        simp only [Act.put, List.setIfInBounds_toArray, List.set_cons_zero, List.set_cons_succ]
        refine wpAnyH_take (i := 14) (oi := ⟨some 29, .move (.tmp 3), _, _, _, _⟩) (v := undef) rfl (by kernel_rfl) (by kernel_rfl) (by kernel_rfl) (fun _ _ _ h => h) (Or.inr ⟨by rfl, rfl⟩) (by assumption) ?_
        simp only [Act.put, List.setIfInBounds_toArray, List.set_cons_zero, List.set_cons_succ]
        refine wpAnyH_take (i := 15) (oi := ⟨some 30, .binOp .sub 3 (.tmp 29) (.const (.int .i64 1)) 3, _, _, _, _⟩) (v := undef) rfl (by kernel_rfl) (by kernel_rfl) (by kernel_rfl) (fun _ _ _ h => h) (Or.inr ⟨by rfl, rfl⟩) (by assumption) ?_
        simp only [Act.put, List.setIfInBounds_toArray, List.set_cons_zero, List.set_cons_succ]
        refine wpAnyH_take (i := 16) (oi := ⟨some 31, .indexAddr 32 (.tmp 28) (.tmp 30), _, _, _, _⟩) (v := undef) rfl (by kernel_rfl) (by kernel_rfl) (by kernel_rfl) (fun _ _ _ h => h) (Or.inr ⟨by rfl, rfl⟩) (by assumption) ?_
        simp only [Act.put, List.setIfInBounds_toArray, List.set_cons_zero, List.set_cons_succ]
        refine wpAnyH_take (i := 17) (oi := ⟨some 32, .fieldAddr 56 (.tmp 31) 0, _, _, _, _⟩) (v := undef) rfl (by kernel_rfl) (by kernel_rfl) (by kernel_rfl) (fun _ _ _ h => h) (Or.inr ⟨by rfl, rfl⟩) (by assumption) ?_
        simp only [Act.put, List.setIfInBounds_toArray, List.set_cons_zero, List.set_cons_succ]
        refine wpAnyH_take (i := 18) (oi := ⟨some 33, .load 9 (.tmp 32), _, _, _, _⟩) (v := undef) rfl (by kernel_rfl) (by kernel_rfl) (by kernel_rfl) (fun _ _ _ h => h) (Or.inr ⟨by rfl, rfl⟩) (by assumption) ?_
        simp only [Act.put, List.setIfInBounds_toArray, List.set_cons_zero, List.set_cons_succ]
        refine wpAnyH_take (i := 19) (oi := ⟨some 34, .fieldAddr 56 (.tmp 4) 0, _, _, _, _⟩) (v := undef) rfl (by kernel_rfl) (by kernel_rfl) (by kernel_rfl) (fun _ _ _ h => h) (Or.inr ⟨by rfl, rfl⟩) (by assumption) ?_
        simp only [Act.put, List.setIfInBounds_toArray, List.set_cons_zero, List.set_cons_succ]
        refine wpAnyH_take (i := 20) (oi := ⟨some 35, .load 9 (.tmp 34), _, _, _, _⟩) (v := undef) rfl (by kernel_rfl) (by kernel_rfl) (by kernel_rfl) (fun _ _ _ h => h) (Or.inr ⟨by rfl, rfl⟩) (by assumption) ?_
        simp only [Act.put, List.setIfInBounds_toArray, List.set_cons_zero, List.set_cons_succ]
        refine wpAnyH_take (i := 21) (oi := ⟨some 36, .binOp .geq 9 (.tmp 33) (.tmp 35) 9, _, _, _, _⟩) (v := undef) rfl (by kernel_rfl) (by kernel_rfl) (by kernel_rfl) (fun _ _ _ h => h) (Or.inr ⟨by rfl, rfl⟩) (by assumption) ?_
        simp only [Act.put, List.setIfInBounds_toArray, List.set_cons_zero, List.set_cons_succ]
        refine wpAnyH_take (i := 22) (oi := ⟨some 37, .pick (.tmp 27) (.tmp 36) (.const (.bool false)), _, _, _, _⟩) (v := undef) rfl (by kernel_rfl) (by kernel_rfl) (by kernel_rfl) (fun _ _ _ h => h) (Or.inr ⟨by rfl, rfl⟩) (by assumption) ?_
        simp only [Act.put, List.setIfInBounds_toArray, List.set_cons_zero, List.set_cons_succ]
        refine wpAnyH_take (i := 23) (oi := ⟨some 38, .pick (.tmp 24) (.const (.bool true)) (.tmp 37), _, _, _, _⟩) (v := (.bool true)) rfl (by kernel_rfl) (by kernel_rfl) (by kernel_rfl) (fun _ _ _ h => h) (Or.inl ⟨by rfl, fun W hW => by go_simp⟩) (by assumption) ?_
        simp only [Act.put, List.setIfInBounds_toArray, List.set_cons_zero, List.set_cons_succ]
        refine wpAnyH_done (by kernel_rfl) ?_ _
        have HZ := Lib.hid (Below.trans HBW.out (HX1.out.mono HBW.out.size))
        have HQ := Lib.hid (HF.out (fun h => by have := (h.2.1 X HXM.out).1; rw [HME.out] at this; cases this))
        go_wp2_with fail
        go_ret
        exact ⟨boolR HQ.out.symm, HZ.out⟩
      · refine wpAnyH_take (i := 3) (oi := ⟨some 18, .unOp .not 4 (.tmp 17), _, _, _, _⟩) (v := (.bool false)) rfl (by kernel_rfl) (by kernel_rfl) (by kernel_rfl) (fun _ _ _ h => h) (Or.inl ⟨by rfl, fun W hW => by go_simp⟩) (by assumption) ?_
        simp only [Act.put, List.setIfInBounds_toArray, List.set_cons_zero, List.set_cons_succ]
        refine wpAnyH_take (i := 4) (oi := ⟨some 19, .move (.tmp 18), _, _, _, _⟩) (v := (.bool false)) rfl (by kernel_rfl) (by kernel_rfl) (by kernel_rfl) (fun _ _ _ h => h) (Or.inl ⟨by rfl, fun W hW => by go_simp⟩) (by assumption) ?_
        simp only [Act.put, List.setIfInBounds_toArray, List.set_cons_zero, List.set_cons_succ]
        refine wpAnyH_take (i := 5) (oi := ⟨some 20, .fieldAddr 56 (.tmp 4) 1, _, _, _, _⟩) (v := (.pointer (some ⟨g4, 1, none⟩))) rfl (by kernel_rfl) (by kernel_rfl) (by kernel_rfl) (fun _ _ _ h => h) (Or.inl ⟨by rfl, fun W hW => by go_simp⟩) (by assumption) ?_
        simp only [Act.put, List.setIfInBounds_toArray, List.set_cons_zero, List.set_cons_succ]
        refine wpAnyH_take (i := 6) (oi := ⟨some 21, .load 24 (.tmp 20), _, _, _, _⟩) (v := (.agg (idCells X.2))) rfl (by kernel_rfl) (by kernel_rfl) (by kernel_rfl) (fun _ _ _ h => h) (Or.inl ⟨by rfl, fun W hW => exec_loadId _ rfl _ _ X.2 HXI.out rfl (HCI.out W hW)⟩) (by assumption) ?_
        simp only [Act.put, List.setIfInBounds_toArray, List.set_cons_zero, List.set_cons_succ]
        refine wpAnyH_ready (rs := [7]) (by kernel_rfl) (by simp) ?_
        refine AllReadyH.cons (o := ⟨some 22, .call { callee := .value (.func 58), args := #[(.tmp 21)], argTypes := #[24] }, _, _, _, _⟩) rfl (fun K hK => ?_) AllReadyH.nil
        go_simp
        go_wp2_with (go_at_call 58; go_must (refine (HZE.out _).mono ?_); rintro e w7 ⟨rfl, hb7⟩; have HX2 := Lib.hid (HX1.out.trans (hb7.mono HX1.out.size)); clear hb7)
        refine hK.out _ _ HX2.out (fun hHeld => ?_)
        clear hK K
        cases z
        · refine wpAnyH_take (i := 8) (oi := ⟨some 23, .pick (.tmp 19) (.const (.bool true)) (.tmp 22), _, _, _, _⟩) (v := (.bool false)) rfl (by kernel_rfl) (by kernel_rfl) (by kernel_rfl) (fun _ _ _ h => h) (Or.inl ⟨by rfl, fun W hW => by go_simp⟩) (by assumption) ?_
          simp only [Act.put, List.setIfInBounds_toArray, List.set_cons_zero, List.set_cons_succ]
          refine wpAnyH_take (i := 9) (oi := ⟨some 24, .move (.tmp 23), _, _, _, _⟩) (v := (.bool false)) rfl (by kernel_rfl) (by kernel_rfl) (by kernel_rfl) (fun _ _ _ h => h) (Or.inl ⟨by rfl, fun W hW => by go_simp⟩) (by assumption) ?_
          simp only [Act.put, List.setIfInBounds_toArray, List.set_cons_zero, List.set_cons_succ]
          refine wpAnyH_take (i := 10) (oi := ⟨some 25, .move (.tmp 3), _, _, _, _⟩) (v := (.int .i64 (i : Nat))) rfl (by kernel_rfl) (by kernel_rfl) (by kernel_rfl) (fun _ _ _ h => h) (Or.inl ⟨by rfl, fun W hW => by go_simp⟩) (by assumption) ?_
          simp only [Act.put, List.setIfInBounds_toArray, List.set_cons_zero, List.set_cons_succ]
          by_cases hi1 : i = 0
          · subst hi1
            refine wpAnyH_take (i := 11) (oi := ⟨some 26, .binOp .gtr 3 (.tmp 25) (.const (.int .i64 0)) 3, _, _, _, _⟩) (v := (.bool false)) rfl (by kernel_rfl) (by kernel_rfl) (by kernel_rfl) (fun _ _ _ h => h) (Or.inl ⟨by rfl, fun W hW => by go_simp⟩) (by assumption) ?_
            simp only [Act.put, List.setIfInBounds_toArray, List.set_cons_zero, List.set_cons_succ]
            refine wpAnyH_take (i := 12) (oi := ⟨some 27, .move (.tmp 26), _, _, _, _⟩) (v := (.bool false)) rfl (by kernel_rfl) (by kernel_rfl) (by kernel_rfl) (fun _ _ _ h => h) (Or.inl ⟨by rfl, fun W hW => by go_simp⟩) (by assumption) ?_
            simp only [Act.put, List.setIfInBounds_toArray, List.set_cons_zero, List.set_cons_succ]
            refine wpAnyH_take (i := 13) (oi := ⟨some 28, .move (.tmp 0), _, _, _, _⟩) (v := undef) rfl (by kernel_rfl) (by kernel_rfl) (by kernel_rfl) (fun _ _ _ h => h) (Or.inr ⟨by rfl, rfl⟩) (by assumption) ?_
            simp only [Act.put, List.setIfInBounds_toArray, List.set_cons_zero, List.set_cons_succ]
            refine wpAnyH_take (i := 14) (oi := ⟨some 29, .move (.tmp 3), _, _, _, _⟩) (v := undef) rfl (by kernel_rfl) (by kernel_rfl) (by kernel_rfl) (fun _ _ _ h => h) (Or.inr ⟨by rfl, rfl⟩) (by assumption) ?_
            simp only [Act.put, List.setIfInBounds_toArray, List.set_cons_zero, List.set_cons_succ]
            refine wpAnyH_take (i := 15) (oi := ⟨some 30, .binOp .sub 3 (.tmp 29) (.const (.int .i64 1)) 3, _, _, _, _⟩) (v := undef) rfl (by kernel_rfl) (by kernel_rfl) (by kernel_rfl) (fun _ _ _ h => h) (Or.inr ⟨by rfl, rfl⟩) (by assumption) ?_
            simp only [Act.put, List.setIfInBounds_toArray, List.set_cons_zero, List.set_cons_succ]
            refine wpAnyH_take (i := 16) (oi := ⟨some 31, .indexAddr 32 (.tmp 28) (.tmp 30), _, _, _, _⟩) (v := undef) rfl (by kernel_rfl) (by kernel_rfl) (by kernel_rfl) (fun _ _ _ h => h) (Or.inr ⟨by rfl, rfl⟩) (by assumption) ?_
            simp only [Act.put, List.setIfInBounds_toArray, List.set_cons_zero, List.set_cons_succ]
            refine wpAnyH_take (i := 17) (oi := ⟨some 32, .fieldAddr 56 (.tmp 31) 0, _, _, _, _⟩) (v := undef) rfl (by kernel_rfl) (by kernel_rfl) (by kernel_rfl) (fun _ _ _ h => h) (Or.inr ⟨by rfl, rfl⟩) (by assumption) ?_
            simp only [Act.put, List.setIfInBounds_toArray, List.set_cons_zero, List.set_cons_succ]
            refine wpAnyH_take (i := 18) (oi := ⟨some 33, .load 9 (.tmp 32), _, _, _, _⟩) (v := undef) rfl (by kernel_rfl) (by kernel_rfl) (by kernel_rfl) (fun _ _ _ h => h) (Or.inr ⟨by rfl, rfl⟩) (by assumption) ?_
            simp only [Act.put, List.setIfInBounds_toArray, List.set_cons_zero, List.set_cons_succ]
            refine wpAnyH_take (i := 19) (oi := ⟨some 34, .fieldAddr 56 (.tmp 4) 0, _, _, _, _⟩) (v := undef) rfl (by kernel_rfl) (by kernel_rfl) (by kernel_rfl) (fun _ _ _ h => h) (Or.inr ⟨by rfl, rfl⟩) (by assumption) ?_
            simp only [Act.put, List.setIfInBounds_toArray, List.set_cons_zero, List.set_cons_succ]
            refine wpAnyH_take (i := 20) (oi := ⟨some 35, .load 9 (.tmp 34), _, _, _, _⟩) (v := undef) rfl (by kernel_rfl) (by kernel_rfl) (by kernel_rfl) (fun _ _ _ h => h) (Or.inr ⟨by rfl, rfl⟩) (by assumption) ?_
            simp only [Act.put, List.setIfInBounds_toArray, List.set_cons_zero, List.set_cons_succ]
            refine wpAnyH_take (i := 21) (oi := ⟨some 36, .binOp .geq 9 (.tmp 33) (.tmp 35) 9, _, _, _, _⟩) (v := undef) rfl (by kernel_rfl) (by kernel_rfl) (by kernel_rfl) (fun _ _ _ h => h) (Or.inr ⟨by rfl, rfl⟩) (by assumption) ?_
            simp only [Act.put, List.setIfInBounds_toArray, List.set_cons_zero, List.set_cons_succ]
            refine wpAnyH_take (i := 22) (oi := ⟨some 37, .pick (.tmp 27) (.tmp 36) (.const (.bool false)), _, _, _, _⟩) (v := (.bool false)) rfl (by kernel_rfl) (by kernel_rfl) (by kernel_rfl) (fun _ _ _ h => h) (Or.inl ⟨by rfl, fun W hW => by go_simp⟩) (by assumption) ?_
            simp only [Act.put, List.setIfInBounds_toArray, List.set_cons_zero, List.set_cons_succ]
            refine wpAnyH_take (i := 23) (oi := ⟨some 38, .pick (.tmp 24) (.const (.bool true)) (.tmp 37), _, _, _, _⟩) (v := (.bool false)) rfl (by kernel_rfl) (by kernel_rfl) (by kernel_rfl) (fun _ _ _ h => h) (Or.inl ⟨by rfl, fun W hW => by go_simp⟩) (by assumption) ?_
            simp only [Act.put, List.setIfInBounds_toArray, List.set_cons_zero, List.set_cons_succ]
            refine wpAnyH_done (by kernel_rfl) ?_ _
            go_wp2_with fail
            go_roundg (n - (0 + 1))
            case measure => have := HG.out; have := HI.out; omega
            case rel => exact ⟨0 + 1, by go_num, by have := HI.out; omega, Lib.hid (HBW.out.trans (HX2.out.mono HBW.out.size)), Lib.hid (HOK.out.first HME.out (of_decide_eq_false HZI.out) HXE.out)⟩
          · obtain ⟨j, rfl⟩ : ∃ j, i = j + 1 := ⟨i - 1, by omega⟩
            have hjn : j < n := by have := HI.out; omega
            have hj0 : (0 : Int) ≤ (j : Int) := by omega
            have hjnI : (j : Int) < (n : Int) := by omega
            have hj1 : (j : Int) + 1 - 1 = (j : Int) := by omega
            have hjp : (0 : Int) < (j : Int) + 1 := by omega
            have hjW : IntKind.i64.wrap (j : Int) = (j : Int) := IntWalk.i64_in _ (by omega)
            obtain ⟨y, hy⟩ : ∃ y, strB (gd L j).1 = y := ⟨_, rfl⟩
            have HCY := Lib.hid (fun W (hW : Below W4.heap.size W4 W) => (hy ▸ rn_name ((HN.out.below HBW.out).below hW) hjn : W.cell? ⟨b, o + j * 33, none⟩ = some (.string y)))
            obtain ⟨l, hl⟩ : ∃ l, decide ((gd L j).1 < X.1) = l := ⟨_, rfl⟩
            have HLS : Hid (Op.bytesLess y.toList p.toList = l) := Lib.hid (by rw [← hy, ← HPE.out, less_is, hl])
            clear hi1 hy hjn
            refine wpAnyH_take (i := 11) (oi := ⟨some 26, .binOp .gtr 3 (.tmp 25) (.const (.int .i64 0)) 3, _, _, _, _⟩) (v := (.bool true)) rfl (by kernel_rfl) (by kernel_rfl) (by kernel_rfl) (fun _ _ _ h => h) (Or.inl ⟨by rfl, fun W hW => by go_simp⟩) (by assumption) ?_
            simp only [Act.put, List.setIfInBounds_toArray, List.set_cons_zero, List.set_cons_succ]
            refine wpAnyH_take (i := 12) (oi := ⟨some 27, .move (.tmp 26), _, _, _, _⟩) (v := (.bool true)) rfl (by kernel_rfl) (by kernel_rfl) (by kernel_rfl) (fun _ _ _ h => h) (Or.inl ⟨by rfl, fun W hW => by go_simp⟩) (by assumption) ?_
            simp only [Act.put, List.setIfInBounds_toArray, List.set_cons_zero, List.set_cons_succ]
            refine wpAnyH_take (i := 13) (oi := ⟨some 28, .move (.tmp 0), _, _, _, _⟩) (v := (.slice (some ⟨b, o, none⟩) n c)) rfl (by kernel_rfl) (by kernel_rfl) (by kernel_rfl) (fun _ _ _ h => h) (Or.inl ⟨by rfl, fun W hW => by go_simp⟩) (by assumption) ?_
            simp only [Act.put, List.setIfInBounds_toArray, List.set_cons_zero, List.set_cons_succ]
            refine wpAnyH_take (i := 14) (oi := ⟨some 29, .move (.tmp 3), _, _, _, _⟩) (v := (.int .i64 ((j + 1 : Nat) : Int))) rfl (by kernel_rfl) (by kernel_rfl) (by kernel_rfl) (fun _ _ _ h => h) (Or.inl ⟨by rfl, fun W hW => by go_simp⟩) (by assumption) ?_
            simp only [Act.put, List.setIfInBounds_toArray, List.set_cons_zero, List.set_cons_succ]
            refine wpAnyH_take (i := 15) (oi := ⟨some 30, .binOp .sub 3 (.tmp 29) (.const (.int .i64 1)) 3, _, _, _, _⟩) (v := (.int .i64 (j : Nat))) rfl (by kernel_rfl) (by kernel_rfl) (by kernel_rfl) (fun _ _ _ h => h) (Or.inl ⟨by rfl, fun W hW => by go_simp⟩) (by assumption) ?_
            simp only [Act.put, List.setIfInBounds_toArray, List.set_cons_zero, List.set_cons_succ]
            refine wpAnyH_take (i := 16) (oi := ⟨some 31, .indexAddr 32 (.tmp 28) (.tmp 30), _, _, _, _⟩) (v := (.pointer (some ⟨b, o + j * 33, none⟩))) rfl (by kernel_rfl) (by kernel_rfl) (by kernel_rfl) (fun _ _ _ h => h) (Or.inl ⟨by rfl, fun W hW => by go_simp⟩) (by assumption) ?_
            simp only [Act.put, List.setIfInBounds_toArray, List.set_cons_zero, List.set_cons_succ]
            refine wpAnyH_take (i := 17) (oi := ⟨some 32, .fieldAddr 56 (.tmp 31) 0, _, _, _, _⟩) (v := (.pointer (some ⟨b, o + j * 33, none⟩))) rfl (by kernel_rfl) (by kernel_rfl) (by kernel_rfl) (fun _ _ _ h => h) (Or.inl ⟨by rfl, fun W hW => by go_simp⟩) (by assumption) ?_
            simp only [Act.put, List.setIfInBounds_toArray, List.set_cons_zero, List.set_cons_succ]
            refine wpAnyH_take (i := 18) (oi := ⟨some 33, .load 9 (.tmp 32), _, _, _, _⟩) (v := (.string y)) rfl (by kernel_rfl) (by kernel_rfl) (by kernel_rfl) (fun _ _ _ h => h) (Or.inl ⟨by rfl, fun W hW => by have hcell := HCY.out W hW; go_simp⟩) (by assumption) ?_
            simp only [Act.put, List.setIfInBounds_toArray, List.set_cons_zero, List.set_cons_succ]
            refine wpAnyH_take (i := 19) (oi := ⟨some 34, .fieldAddr 56 (.tmp 4) 0, _, _, _, _⟩) (v := (.pointer (some ⟨g4, 0, none⟩))) rfl (by kernel_rfl) (by kernel_rfl) (by kernel_rfl) (fun _ _ _ h => h) (Or.inl ⟨by rfl, fun W hW => by go_simp⟩) (by assumption) ?_
            simp only [Act.put, List.setIfInBounds_toArray, List.set_cons_zero, List.set_cons_succ]
            refine wpAnyH_take (i := 20) (oi := ⟨some 35, .load 9 (.tmp 34), _, _, _, _⟩) (v := (.string p)) rfl (by kernel_rfl) (by kernel_rfl) (by kernel_rfl) (fun _ _ _ h => h) (Or.inl ⟨by rfl, fun W hW => by have hcell := HCP.out W hW; go_simp⟩) (by assumption) ?_
            simp only [Act.put, List.setIfInBounds_toArray, List.set_cons_zero, List.set_cons_succ]
            refine wpAnyH_take (i := 21) (oi := ⟨some 36, .binOp .geq 9 (.tmp 33) (.tmp 35) 9, _, _, _, _⟩) (v := (.bool (!l))) rfl (by kernel_rfl) (by kernel_rfl) (by kernel_rfl) (fun _ _ _ h => h) (Or.inl ⟨by rfl, fun W hW => by have hl := HLS.out; go_simp⟩) (by assumption) ?_
            simp only [Act.put, List.setIfInBounds_toArray, List.set_cons_zero, List.set_cons_succ]
            refine wpAnyH_take (i := 22) (oi := ⟨some 37, .pick (.tmp 27) (.tmp 36) (.const (.bool false)), _, _, _, _⟩) (v := (.bool (!l))) rfl (by kernel_rfl) (by kernel_rfl) (by kernel_rfl) (fun _ _ _ h => h) (Or.inl ⟨by rfl, fun W hW => by go_simp⟩) (by assumption) ?_
            simp only [Act.put, List.setIfInBounds_toArray, List.set_cons_zero, List.set_cons_succ]
            refine wpAnyH_take (i := 23) (oi := ⟨some 38, .pick (.tmp 24) (.const (.bool true)) (.tmp 37), _, _, _, _⟩) (v := (.bool (!l))) rfl (by kernel_rfl) (by kernel_rfl) (by kernel_rfl) (fun _ _ _ h => h) (Or.inl ⟨by rfl, fun W hW => by go_simp⟩) (by assumption) ?_
            simp only [Act.put, List.setIfInBounds_toArray, List.set_cons_zero, List.set_cons_succ]
            cases l
            · have HLL := Lib.hid (of_decide_eq_false hl)
              clear hl
              refine wpAnyH_done (by kernel_rfl) ?_ _
              have HZ := Lib.hid (Below.trans HBW.out (HX2.out.mono HBW.out.size))
              have HQ := Lib.hid (HF.out (fun h => HLL.out (h.step HI.out HXE.out HLN.out)))
              go_wp2_with fail
              go_ret
              exact ⟨boolR HQ.out.symm, HZ.out⟩
            · have HLL := Lib.hid (of_decide_eq_true hl)
              clear hl
              refine wpAnyH_done (by kernel_rfl) ?_ _
              go_wp2_with fail
              go_roundg (n - (j + 1 + 1))
              case measure => have := HG.out; have := HI.out; omega
              case rel => exact ⟨j + 1 + 1, by go_num, by have := HI.out; omega, Lib.hid (HBW.out.trans (HX2.out.mono HBW.out.size)), Lib.hid (HOK.out.more HME.out (of_decide_eq_false HZI.out) HXE.out HLL.out)⟩
        · refine wpAnyH_take (i := 8) (oi := ⟨some 23, .pick (.tmp 19) (.const (.bool true)) (.tmp 22), _, _, _, _⟩) (v := (.bool true)) rfl (by kernel_rfl) (by kernel_rfl) (by kernel_rfl) (fun _ _ _ h => h) (Or.inl ⟨by rfl, fun W hW => by go_simp⟩) (by assumption) ?_
          simp only [Act.put, List.setIfInBounds_toArray, List.set_cons_zero, List.set_cons_succ]
          refine wpAnyH_take (i := 9) (oi := ⟨some 24, .move (.tmp 23), _, _, _, _⟩) (v := (.bool true)) rfl (by kernel_rfl) (by kernel_rfl) (by kernel_rfl) (fun _ _ _ h => h) (Or.inl ⟨by rfl, fun W hW => by go_simp⟩) (by assumption) ?_
          simp only [Act.put, List.setIfInBounds_toArray, List.set_cons_zero, List.set_cons_succ]
          refine wpAnyH_take (i := 10) (oi := ⟨some 25, .move (.tmp 3), _, _, _, _⟩) (v := undef) rfl (by kernel_rfl) (by kernel_rfl) (by kernel_rfl) (fun _ _ _ h => h) (Or.inr ⟨by rfl, rfl⟩) (by assumption) ?_
          simp only [Act.put, List.setIfInBounds_toArray, List.set_cons_zero, List.set_cons_succ]
          refine wpAnyH_take (i := 11) (oi := ⟨some 26, .binOp .gtr 3 (.tmp 25) (.const (.int .i64 0)) 3, _, _, _, _⟩) (v := undef) rfl (by kernel_rfl) (by kernel_rfl) (by kernel_rfl) (fun _ _ _ h => h) (Or.inr ⟨by rfl, rfl⟩) (by assumption) ?_
          simp only [Act.put, List.setIfInBounds_toArray, List.set_cons_zero, List.set_cons_succ]
          refine wpAnyH_take (i := 12) (oi := ⟨some 27, .move (.tmp 26), _, _, _, _⟩) (v := undef) rfl (by kernel_rfl) (by kernel_rfl) (by kernel_rfl) (fun _ _ _ h => h) (Or.inr ⟨by rfl, rfl⟩) (by assumption) ?_
          simp only [Act.put, List.setIfInBounds_toArray, List.set_cons_zero, List.set_cons_succ]
          refine wpAnyH_take (i := 13) (oi := ⟨some 28, .move (.tmp 0), _, _, _, _⟩) (v := undef) rfl (by kernel_rfl) (by kernel_rfl) (by kernel_rfl) (fun _ _ _ h => h) (Or.inr ⟨by rfl, rfl⟩) (by assumption) ?_
          simp only [Act.put, List.setIfInBounds_toArray, List.set_cons_zero, List.set_cons_succ]
          refine wpAnyH_take (i := 14) (oi := ⟨some 29, .move (.tmp 3), _, _, _, _⟩) (v := undef) rfl (by kernel_rfl) (by kernel_rfl) (by kernel_rfl) (fun _ _ _ h => h) (Or.inr ⟨by rfl, rfl⟩) (by assumption) ?_
          simp only [Act.put, List.setIfInBounds_toArray, List.set_cons_zero, List.set_cons_succ]
          refine wpAnyH_take (i := 15) (oi := ⟨some 30, .binOp .sub 3 (.tmp 29) (.const (.int .i64 1)) 3, _, _, _, _⟩) (v := undef) rfl (by kernel_rfl) (by kernel_rfl) (by kernel_rfl) (fun _ _ _ h => h) (Or.inr ⟨by rfl, rfl⟩) (by assumption) ?_
          simp only [Act.put, List.setIfInBounds_toArray, List.set_cons_zero, List.set_cons_succ]
          refine wpAnyH_take (i := 16) (oi := ⟨some 31, .indexAddr 32 (.tmp 28) (.tmp 30), _, _, _, _⟩) (v := undef) rfl (by kernel_rfl) (by kernel_rfl) (by kernel_rfl) (fun _ _ _ h => h) (Or.inr ⟨by rfl, rfl⟩) (by assumption) ?_
          simp only [Act.put, List.setIfInBounds_toArray, List.set_cons_zero, List.set_cons_succ]
          refine wpAnyH_take (i := 17) (oi := ⟨some 32, .fieldAddr 56 (.tmp 31) 0, _, _, _, _⟩) (v := undef) rfl (by kernel_rfl) (by kernel_rfl) (by kernel_rfl) (fun _ _ _ h => h) (Or.inr ⟨by rfl, rfl⟩) (by assumption) ?_
          simp only [Act.put, List.setIfInBounds_toArray, List.set_cons_zero, List.set_cons_succ]
          refine wpAnyH_take (i := 18) (oi := ⟨some 33, .load 9 (.tmp 32), _, _, _, _⟩) (v := undef) rfl (by kernel_rfl) (by kernel_rfl) (by kernel_rfl) (fun _ _ _ h => h) (Or.inr ⟨by rfl, rfl⟩) (by assumption) ?_
          simp only [Act.put, List.setIfInBounds_toArray, List.set_cons_zero, List.set_cons_succ]
          refine wpAnyH_take (i := 19) (oi := ⟨some 34, .fieldAddr 56 (.tmp 4) 0, _, _, _, _⟩) (v := undef) rfl (by kernel_rfl) (by kernel_rfl) (by kernel_rfl) (fun _ _ _ h => h) (Or.inr ⟨by rfl, rfl⟩) (by assumption) ?_
          simp only [Act.put, List.setIfInBounds_toArray, List.set_cons_zero, List.set_cons_succ]
          refine wpAnyH_take (i := 20) (oi := ⟨some 35, .load 9 (.tmp 34), _, _, _, _⟩) (v := undef) rfl (by kernel_rfl) (by kernel_rfl) (by kernel_rfl) (fun _ _ _ h => h) (Or.inr ⟨by rfl, rfl⟩) (by assumption) ?_
          simp only [Act.put, List.setIfInBounds_toArray, List.set_cons_zero, List.set_cons_succ]
          refine wpAnyH_take (i := 21) (oi := ⟨some 36, .binOp .geq 9 (.tmp 33) (.tmp 35) 9, _, _, _, _⟩) (v := undef) rfl (by kernel_rfl) (by kernel_rfl) (by kernel_rfl) (fun _ _ _ h => h) (Or.inr ⟨by rfl, rfl⟩) (by assumption) ?_
          simp only [Act.put, List.setIfInBounds_toArray, List.set_cons_zero, List.set_cons_succ]
          refine wpAnyH_take (i := 22) (oi := ⟨some 37, .pick (.tmp 27) (.tmp 36) (.const (.bool false)), _, _, _, _⟩) (v := undef) rfl (by kernel_rfl) (by kernel_rfl) (by kernel_rfl) (fun _ _ _ h => h) (Or.inr ⟨by rfl, rfl⟩) (by assumption) ?_
          simp only [Act.put, List.setIfInBounds_toArray, List.set_cons_zero, List.set_cons_succ]
          refine wpAnyH_take (i := 23) (oi := ⟨some 38, .pick (.tmp 24) (.const (.bool true)) (.tmp 37), _, _, _, _⟩) (v := (.bool true)) rfl (by kernel_rfl) (by kernel_rfl) (by kernel_rfl) (fun _ _ _ h => h) (Or.inl ⟨by rfl, fun W hW => by go_simp⟩) (by assumption) ?_
          simp only [Act.put, List.setIfInBounds_toArray, List.set_cons_zero, List.set_cons_succ]
          refine wpAnyH_done (by kernel_rfl) ?_ _
          have HZ := Lib.hid (Below.trans HBW.out (HX2.out.mono HBW.out.size))
          have HQ := Lib.hid (HF.out (fun h => by have := (h.2.1 X HXM.out).2; exact this (of_decide_eq_true HZI.out)))
          go_wp2_with fail
          go_ret
          exact ⟨boolR HQ.out.symm, HZ.out⟩
    · have hin : n = i := by omega
      have HZ : Hid (q = true) := Lib.hid (HQ.out.2 (NOk.all (by rw [HLN.out, hin]; exact HOK.out) (by have := HLN.out; have := HNI.out; omega)))
      clear hg
      go_wp2
      go_ret
      exact ⟨boolR HZ.out.symm, HB.out⟩
#print axioms names_any
end Go.Proofs.YtejooogfnnidcaaDoor

namespace Go.Proofs.YtejooogfnnidcaaDoor
open Go.RowKit

/-- May an entry be? -/
def entF (e : EntV) : Bool := decide (1 ≤ e.upd.kind) && decide (e.upd.kind ≤ 3) && decide (e.upd.name.length ≤ 32) && noteF e.note
def LogOk (L : List EntV) : Prop := L.length ≤ 64 ∧ ∀ e ∈ L, entF e = true
theorem size67 {X : EntV} (h : UpOk X.upd) : (Tryd.prog.info? EEf).map (·.size) = some (enL X).length := by rw [enL_len h]; kernel_rfl
theorem exec_loadEn {w : World} {o : Oper} {a : Act} (x : Operand) (ho : o.op = .load EEf x) (b off : Nat) (X : EntV) (hX : UpOk X.upd) (hx : a.eval x = .pointer (some ⟨b, off, none⟩)) (hc : w.rangeAt b off (enL X)) :
    (execOp a.eval o).run Tryd.prog w = .ok (.value (.agg (enL X).toArray)) w := by
  have hr := run_loadVar_mid (P := Tryd.prog) w b off EEf (enL X) _ hc Tryd.underlying59 rfl (size67 hX)
  unfold execOp
  simp only [ho, hx, Instr.loadAt, Instr.sureAddr, Sem.run_bind, Sem.run_pure, Result.andThen_ok, hr]
theorem note_is (n : List UInt8) (q : Bool) (hq : noteF n = q) (hl : n.length ≤ 100000) (w : World) (hT : Tabs w) : Calls Tryd.prog 29 #[.string (strB n)] w fun e w' => e = .returned (.bool q) ∧ Below w.heap.size w w' := by
  have h := note_any (strB n) w (by rw [strB_size]; omega) hT
  rw [strB_list, hq] at h
  exact h
theorem en_note {w : World} {g : Nat} {E : TypeId} {X : EntV} (hX : UpOk X.upd) (h : RowAt w g E (enL X)) : w.cell? ⟨g, 66, none⟩ = some (.string (strB X.note)) := by
  refine h.cell 66 ?_
  unfold enL
  rw [List.getElem?_append_right (by rw [upL_len hX]; omega), upL_len hX]
  rfl
theorem ent_bad {L : List EntV} {X : EntV} {q : Bool} (hF : ¬ LogOk L → q = false) (hm : X ∈ L) (h : ¬ entF X = true) : q = false := hF (fun h2 => h (h2.2 X hm))

set_option maxRecDepth 100000 in
set_option maxHeartbeats 2000000 in
theorem log_any (a : Option Addr) (n c : Nat) (L : List EntV) (w : World) (h : AtG enK w a n c L) (hs : ∀ e ∈ L, e.upd.name.length ≤ 100000 ∧ e.note.length ≤ 100000) (hT : Tabs w) (q : Bool) (hq : q = true ↔ LogOk L) :
    Calls Tryd.prog 36 #[.slice a n c] w fun e w' => e = .returned (.bool q) ∧ Below w.heap.size w w' := by
  have HLN := Lib.hid h.1
  have HN := Lib.hid h
  have HQ := Lib.hid hq
  have HT := Lib.hid hT
  have HS := Lib.hid hs
  have HF := Lib.hid (show ¬ LogOk L → q = false from fun h => by
    cases q
    · rfl
    · exact absurd (HQ.out.1 rfl) h)
  have hnM : (n : Int) ≤ 9223372036854775807 := by have := h.2.1; have := h.2.2.1; omega
  clear hq hs hT
  by_cases h64 : (64 : Int) < (n : Int)
  · have d64 : decide (64 < n) = true := decide_eq_true (by omega)
    have HQ2 := Lib.hid (HF.out (fun h2 => by have := h2.1; have := HLN.out; omega))
    clear h
    go_enter Tryd.func36, Tryd.ntmps36
    go_wp2
    go_ret
    exact ⟨boolR HQ2.out.symm, Below.refl _ _⟩
  have hnI : (n : Int) ≤ 64 := by omega
  have HNI := Lib.hid hnI
  have d64 : decide (64 < n) = false := decide_eq_false (by omega)
  clear h h64
  go_enter Tryd.func36, Tryd.ntmps36
  go_wp2
  go_loopg [10] n (fun g v10 W => ∃ i : Nat, v10 = .int .i64 i ∧ g + i = n ∧ Hid (Below w.heap.size w W) ∧ Hid (∀ j, j < i → entF (gd L j) = true))
  case atStart => exact ⟨0, rfl, rfl, Lib.hid (Below.refl _ _), Lib.hid (fun j hj => absurd hj (Nat.not_lt_zero _))⟩
  case round =>
    obtain ⟨i, rfl, hg, HB, HOK⟩ := hrel
    have HG := Lib.hid hg
    have hi0 : (0 : Int) ≤ (i : Int) := by omega
    have hiI : (i : Int) ≤ (n : Int) := by omega
    by_cases hi : (i : Int) < (n : Int)
    · have hin : i < n := by omega
      have HI := Lib.hid hin
      obtain ⟨b, o, rfl⟩ := HN.out.some_ (by omega)
      obtain ⟨X, hX⟩ : ∃ X, X = gd L i := ⟨_, rfl⟩
      have HXO : Hid (UpOk X.upd) := Lib.hid (hX ▸ HN.out.ok hin)
      have HXE := Lib.hid hX
      have HXM : Hid (X ∈ L) := Lib.hid (by rw [hX]; exact gd_mem (by rw [HLN.out]; exact hin))
      have HXR : Hid (wr.rangeAt b (o + i * 67) (enL X)) := Lib.hid (hX ▸ (HN.out.below HB.out).at_ i hin)
      obtain ⟨ki, hki⟩ : ∃ ki : Int, (X.upd.kind : Int) = ki := ⟨_, rfl⟩
      have HKI := Lib.hid hki
      obtain ⟨p, hp⟩ : ∃ p, strB X.upd.name = p := ⟨_, rfl⟩
      have hps : p.size = X.upd.name.length := by rw [← hp, strB_size]
      have hpM : (p.size : Int) ≤ 100000 := by rw [hps]; have := (HS.out X HXM.out).1; omega
      have HPS := Lib.hid hps
      obtain ⟨t, ht⟩ : ∃ t, strB X.note = t := ⟨_, rfl⟩
      obtain ⟨m, hm⟩ : ∃ m, noteF X.note = m := ⟨_, rfl⟩
      have HNM := Lib.hid (fun W hT => ht ▸ note_is X.note m hm (HS.out X HXM.out).2 W hT)
      have HME := Lib.hid hm
      have HC0 := Lib.hid (fun W g (hh : RowAt W g EEf (enL X)) => (hki ▸ hh.cell 0 rfl : W.cell? ⟨g, 0, none⟩ = some (.int .u8 ki)))
      have HC1 := Lib.hid (fun W g (hh : RowAt W g EEf (enL X)) => (hp ▸ hh.cell 1 rfl : W.cell? ⟨g, 1, none⟩ = some (.string p)))
      have HC66 := Lib.hid (fun W g (hh : RowAt W g EEf (enL X)) => (ht ▸ en_note HXO.out hh : W.cell? ⟨g, 66, none⟩ = some (.string t)))
      clear hg hX hki hp hps ht hm
      by_cases k1 : ki < 1
      · have HZ := Lib.hid (ent_bad HF.out HXM.out (fun h => by unfold entF at h; simp only [Bool.and_eq_true, decide_eq_true_eq] at h; have := HKI.out; omega))
        go_wp2_with (first
          | ((with_reducible show wpList _ _ _ (⟨some 13, _, _, _, _, _⟩ :: _) _ _); go_must (refine wl_ex rfl (exec_loadEn _ rfl _ _ X HXO.out rfl HXR.out) ?_))
          | ((with_reducible show wpList _ _ _ (⟨_, Op.store _ (.tmp 4) _, _, _, _, _⟩ :: _) _ _); go_must (refine store_new (vs := enL X) (size67 HXO.out) (enL_one X) (by rw [enL_len HXO.out]; rfl) rfl _ _ rfl rfl rfl ?_); intro W4 hk4 hb4 hs4; have HBW := Lib.hid (HB.out.trans (hb4.mono HB.out.size)); have c0 := HC0.out _ _ hk4; have c1 := HC1.out _ _ hk4; have c66 := HC66.out _ _ hk4; generalize wr.heap.size = g4 at hk4 hs4 c0 c1 c66 ⊢; clear hk4 hb4 hs4))
        go_ret
        exact ⟨boolR HZ.out.symm, HBW.out⟩
      by_cases k2 : 3 < ki
      · have k1n : decide (ki < 1) = false := decide_eq_false k1
        have HZ := Lib.hid (ent_bad HF.out HXM.out (fun h => by unfold entF at h; simp only [Bool.and_eq_true, decide_eq_true_eq] at h; have := HKI.out; omega))
        go_wp2_with (first
          | ((with_reducible show wpList _ _ _ (⟨some 13, _, _, _, _, _⟩ :: _) _ _); go_must (refine wl_ex rfl (exec_loadEn _ rfl _ _ X HXO.out rfl HXR.out) ?_))
          | ((with_reducible show wpList _ _ _ (⟨_, Op.store _ (.tmp 4) _, _, _, _, _⟩ :: _) _ _); go_must (refine store_new (vs := enL X) (size67 HXO.out) (enL_one X) (by rw [enL_len HXO.out]; rfl) rfl _ _ rfl rfl rfl ?_); intro W4 hk4 hb4 hs4; have HBW := Lib.hid (HB.out.trans (hb4.mono HB.out.size)); have c0 := HC0.out _ _ hk4; have c1 := HC1.out _ _ hk4; have c66 := HC66.out _ _ hk4; generalize wr.heap.size = g4 at hk4 hs4 c0 c1 c66 ⊢; clear hk4 hb4 hs4))
        go_ret
        exact ⟨boolR HZ.out.symm, HBW.out⟩
      by_cases k3 : 32 < (p.size : Int)
      · have k3n : decide (32 < p.size) = true := decide_eq_true (by omega)
        have k1n : decide (ki < 1) = false := decide_eq_false k1
        have k2n : decide (3 < ki) = false := decide_eq_false k2
        have HZ := Lib.hid (ent_bad HF.out HXM.out (fun h => by unfold entF at h; simp only [Bool.and_eq_true, decide_eq_true_eq] at h; have := HPS.out; omega))
        go_wp2_with (first
          | ((with_reducible show wpList _ _ _ (⟨some 13, _, _, _, _, _⟩ :: _) _ _); go_must (refine wl_ex rfl (exec_loadEn _ rfl _ _ X HXO.out rfl HXR.out) ?_))
          | ((with_reducible show wpList _ _ _ (⟨_, Op.store _ (.tmp 4) _, _, _, _, _⟩ :: _) _ _); go_must (refine store_new (vs := enL X) (size67 HXO.out) (enL_one X) (by rw [enL_len HXO.out]; rfl) rfl _ _ rfl rfl rfl ?_); intro W4 hk4 hb4 hs4; have HBW := Lib.hid (HB.out.trans (hb4.mono HB.out.size)); have c0 := HC0.out _ _ hk4; have c1 := HC1.out _ _ hk4; have c66 := HC66.out _ _ hk4; generalize wr.heap.size = g4 at hk4 hs4 c0 c1 c66 ⊢; clear hk4 hb4 hs4))
        go_ret
        exact ⟨boolR HZ.out.symm, HBW.out⟩
      have k1n : decide (ki < 1) = false := decide_eq_false k1
      have k2n : decide (3 < ki) = false := decide_eq_false k2
      have k3n : decide (32 < p.size) = false := decide_eq_false (by omega)
      cases m
      · have HZ := Lib.hid (ent_bad HF.out HXM.out (fun h => by unfold entF at h; simp only [Bool.and_eq_true, decide_eq_true_eq] at h; have := h.2; rw [HME.out] at this; cases this))
        go_wp2_with (first
          | ((with_reducible show wpList _ _ _ (⟨some 13, _, _, _, _, _⟩ :: _) _ _); go_must (refine wl_ex rfl (exec_loadEn _ rfl _ _ X HXO.out rfl HXR.out) ?_))
          | ((with_reducible show wpList _ _ _ (⟨_, Op.store _ (.tmp 4) _, _, _, _, _⟩ :: _) _ _); go_must (refine store_new (vs := enL X) (size67 HXO.out) (enL_one X) (by rw [enL_len HXO.out]; rfl) rfl _ _ rfl rfl rfl ?_); intro W4 hk4 hb4 hs4; have HBW := Lib.hid (HB.out.trans (hb4.mono HB.out.size)); have c0 := HC0.out _ _ hk4; have c1 := HC1.out _ _ hk4; have c66 := HC66.out _ _ hk4; generalize wr.heap.size = g4 at hk4 hs4 c0 c1 c66 ⊢; clear hk4 hb4 hs4)
          | (go_at_call 29; go_must (refine (HNM.out _ (HT.out.below HBW.out)).mono ?_); rintro e w6 ⟨rfl, hb6⟩; have HX1 := Lib.hid (HBW.out.trans (hb6.mono HBW.out.size)); clear hb6))
        go_ret
        exact ⟨boolR HZ.out.symm, HX1.out⟩
      · have HK := Lib.hid (show entF X = true by
          unfold entF
          rw [HME.out, decide_eq_true (show 1 ≤ X.upd.kind by have := HKI.out; omega), decide_eq_true (show X.upd.kind ≤ 3 by have := HKI.out; omega), decide_eq_true (show X.upd.name.length ≤ 32 by have := HPS.out; omega)]
          rfl)
        clear k1 k2
        go_wp2_with (first
          | ((with_reducible show wpList _ _ _ (⟨some 13, _, _, _, _, _⟩ :: _) _ _); go_must (refine wl_ex rfl (exec_loadEn _ rfl _ _ X HXO.out rfl HXR.out) ?_))
          | ((with_reducible show wpList _ _ _ (⟨_, Op.store _ (.tmp 4) _, _, _, _, _⟩ :: _) _ _); go_must (refine store_new (vs := enL X) (size67 HXO.out) (enL_one X) (by rw [enL_len HXO.out]; rfl) rfl _ _ rfl rfl rfl ?_); intro W4 hk4 hb4 hs4; have HBW := Lib.hid (HB.out.trans (hb4.mono HB.out.size)); have c0 := HC0.out _ _ hk4; have c1 := HC1.out _ _ hk4; have c66 := HC66.out _ _ hk4; generalize wr.heap.size = g4 at hk4 hs4 c0 c1 c66 ⊢; clear hk4 hb4 hs4)
          | (go_at_call 29; go_must (refine (HNM.out _ (HT.out.below HBW.out)).mono ?_); rintro e w6 ⟨rfl, hb6⟩; have HX1 := Lib.hid (HBW.out.trans (hb6.mono HBW.out.size)); clear hb6))
        go_roundg (n - (i + 1))
        case measure => have := HG.out; have := HI.out; omega
        case rel => exact ⟨i + 1, by go_num, by have := HI.out; omega, HX1, Lib.hid (fun j hj => by
          rcases Nat.lt_or_ge j i with h1 | h1
          · exact HOK.out j h1
          · obtain rfl : j = i := by omega
            rw [← HXE.out]; exact HK.out)⟩
    · have hin : n = i := by omega
      have HZ : Hid (q = true) := Lib.hid (HQ.out.2 ⟨by have := HLN.out; have := HNI.out; omega, fun e he => by
        obtain ⟨j, hj, rfl⟩ := List.mem_iff_getElem.1 he
        have := HOK.out j (by have := HLN.out; omega)
        have e2 : gd L j = L[j] := by unfold gd; simp [hj]
        rwa [e2] at this⟩)
      clear hg
      go_wp2
      go_ret
      exact ⟨boolR HZ.out.symm, HB.out⟩
#print axioms log_any
/-- May refs be? -/
def RightV (r : RefsV) : Prop := RightN r.br ∧ RightN r.tg ∧ headF r.head r.at_ = true ∧ LogOk r.log
/-- What their texts weigh. -/
def RfLen (r : RefsV) : Prop := ∀ e ∈ r.log, e.upd.name.length ≤ 100000 ∧ e.note.length ≤ 100000
theorem size36 {S : RfS} {h a : List UInt8} (ha : a.length = 32) : (Tryd.prog.info? REf).map (·.size) = some (rfL S h a).length := by rw [rfL_len ha]; kernel_rfl
theorem exec_loadRf {w : World} {o : Oper} {a : Act} (x : Operand) (ho : o.op = .load REf x) (b : Nat) (S : RfS) (h m : List UInt8) (hm : m.length = 32) (hx : a.eval x = .pointer (some ⟨b, 0, none⟩)) (hc : RowAt w b REf (rfL S h m)) :
    (execOp a.eval o).run Tryd.prog w = .ok (.value (.agg (rfC S h m))) w := by
  have hr := run_loadVar_mid (P := Tryd.prog) w b 0 REf (rfL S h m) _ (fun i v hv => by rw [Nat.zero_add]; exact RowAt.cell hc i hv) Tryd.underlying34 rfl (size36 hm)
  unfold execOp
  simp only [ho, hx, Instr.loadAt, Instr.sureAddr, Sem.run_bind, Sem.run_pure, Result.andThen_ok, hr]
  rfl
section
variable {w : World} {g : Nat} {S : RfS} {h a : List UInt8} {E : TypeId}
theorem rf_br (H : RowAt w g E (rfL S h a)) : w.cell? ⟨g, 0, none⟩ = some (.slice S.ab S.nb S.cb) := H.cell 0 rfl
theorem rf_tg (H : RowAt w g E (rfL S h a)) : w.cell? ⟨g, 1, none⟩ = some (.slice S.ag S.ng S.cg) := H.cell 1 rfl
theorem rf_hd (H : RowAt w g E (rfL S h a)) : w.cell? ⟨g, 2, none⟩ = some (.string (strB h)) := H.cell 2 rfl
theorem rf_at (H : RowAt w g E (rfL S h a)) : w.rangeAt g 3 (a.map B) :=
  H.range (l := [.slice S.ab S.nb S.cb, .slice S.ag S.ng S.cg, .string (strB h)]) (m := a.map B) (r := [.slice S.al S.nl S.cl]) rfl
theorem rf_log (ha : a.length = 32) (H : RowAt w g E (rfL S h a)) : w.cell? ⟨g, 35, none⟩ = some (.slice S.al S.nl S.cl) := by
  refine H.cell 35 ?_
  unfold rfL
  rw [List.getElem?_append_right (by simp), List.getElem?_append_right (by simp [ha])]
  simp [ha]
end
theorem right_some (r : RefsV) : ∃ q1 q2 q3 q4 : Bool, (q1 = true ↔ RightN r.br) ∧ (q2 = true ↔ RightN r.tg) ∧ headF r.head r.at_ = q3 ∧ (q4 = true ↔ LogOk r.log) :=
  ⟨by classical exact decide (RightN r.br), by classical exact decide (RightN r.tg), _, by classical exact decide (LogOk r.log), by classical exact decide_eq_true_iff, by classical exact decide_eq_true_iff, rfl, by classical exact decide_eq_true_iff⟩

set_option maxRecDepth 100000 in
set_option maxHeartbeats 1000000 in
theorem right_any (S : RfS) (r : RefsV) (w : World) (h : RfIn w S r) (hs : RfLen r) (hT : Tabs w) (q : Bool) (hq : q = true ↔ RightV r) :
    Calls Tryd.prog 18 #[.agg (rfC S r.head r.at_)] w fun e w' => e = .returned (.bool q) ∧ Below w.heap.size w w' := by
  obtain ⟨q1, q2, q3, q4, h1, h2, h3, h4⟩ := right_some r
  have HA := Lib.hid h.at_
  have HR := Lib.hid (show RowAt (w.alloc (.cells (rfC S r.head r.at_) REf)) w.heap.size REf (rfL S r.head r.at_) from heap_alloc_new w _)
  have HB := Lib.hid ((Below.refl w.heap.size w).alloc (Nat.le_refl _) (.cells (rfC S r.head r.at_) REf))
  have N1 := Lib.hid (fun W (hW : Below w.heap.size w W) => names_any S.ab S.nb S.cb r.br W (h.br.below hW) q1 h1)
  have N2 := Lib.hid (fun W (hW : Below w.heap.size w W) => names_any S.ag S.ng S.cg r.tg W (h.tg.below hW) q2 h2)
  have N3 := Lib.hid (fun W => head_any r.head r.at_ h.at_ q3 h3 W)
  have N4 := Lib.hid (fun W (hW : Below w.heap.size w W) => log_any S.al S.nl S.cl r.log W (h.log.below hW) hs (hT.below hW) q4 h4)
  have HQ := Lib.hid (show q = (q1 && q2 && q3 && q4) by
    rw [Bool.eq_iff_iff]
    simp only [Bool.and_eq_true]
    rw [hq, h1, h2, h4]
    unfold RightV
    rw [h3]
    constructor
    · rintro ⟨a, b, c, d⟩; exact ⟨⟨⟨a, b⟩, c⟩, d⟩
    · rintro ⟨⟨⟨a, b⟩, c⟩, d⟩; exact ⟨a, b, c, d⟩)
  obtain ⟨p, hp⟩ : ∃ p, strB r.head = p := ⟨_, rfl⟩
  have HC0 := Lib.hid (fun W (hh : RowAt W w.heap.size REf (rfL S r.head r.at_)) => rf_br hh)
  have HC1 := Lib.hid (fun W (hh : RowAt W w.heap.size REf (rfL S r.head r.at_)) => rf_tg hh)
  have HC2 := Lib.hid (fun W (hh : RowAt W w.heap.size REf (rfL S r.head r.at_)) => (hp ▸ rf_hd hh : W.cell? ⟨w.heap.size, 2, none⟩ = some (.string p)))
  have HC35 := Lib.hid (fun W (hh : RowAt W w.heap.size REf (rfL S r.head r.at_)) => rf_log HA.out hh)
  rw [hp] at N3
  have c0 := HC0.out _ HR.out
  clear h hs hT hq h1 h2 h3 h4 hp
  cases q1
  · go_enter Tryd.func18, Tryd.ntmps18
    go_wp2_with (go_at_call 34; go_must (refine (N1.out _ HB.out).mono ?_); rintro e w2 ⟨rfl, hb2⟩)
    go_ret
    exact ⟨boolR (by rw [HQ.out]; rfl), HB.out.trans (hb2.mono HB.out.size)⟩
  cases q2
  · go_enter Tryd.func18, Tryd.ntmps18
    go_wp2_with (first
      | (go_at_call 34; (with_reducible refine (N1.out _ HB.out).mono ?_); rintro e w2 ⟨rfl, hb2⟩; have HB2 := Lib.hid (HB.out.trans (hb2.mono HB.out.size)); have HR2 := Lib.hid (HR.out.below hb2); have c1 := HC1.out _ HR2.out; clear hb2)
      | (go_at_call 34; (with_reducible refine (N2.out _ HB2.out).mono ?_); rintro e w3 ⟨rfl, hb3⟩))
    go_ret
    exact ⟨boolR (by rw [HQ.out]; rfl), HB2.out.trans (hb3.mono HB2.out.size)⟩
  cases q3
  · go_enter Tryd.func18, Tryd.ntmps18
    go_wp2_with (first
      | (go_at_call 34; (with_reducible refine (N1.out _ HB.out).mono ?_); rintro e w2 ⟨rfl, hb2⟩; have HB2 := Lib.hid (HB.out.trans (hb2.mono HB.out.size)); have HR2 := Lib.hid (HR.out.below hb2); have c1 := HC1.out _ HR2.out; clear hb2)
      | (go_at_call 34; (with_reducible refine (N2.out _ HB2.out).mono ?_); rintro e w3 ⟨rfl, hb3⟩; have HB3 := Lib.hid (HB2.out.trans (hb3.mono HB2.out.size)); have HR3 := Lib.hid (HR2.out.below hb3); have c2 := HC2.out _ HR3.out; clear hb3)
      | ((with_reducible show wpList _ _ _ (⟨some 15, _, _, _, _, _⟩ :: _) _ _); go_must (refine wl_load rfl _ rfl _ _ r.at_ HA.out rfl (rf_at HR3.out) ?_))
      | (go_at_call 35; go_must (refine (N3.out _).mono ?_); rintro e w4 ⟨rfl, hb4⟩))
    go_ret
    exact ⟨boolR (by rw [HQ.out]; rfl), HB3.out.trans (hb4.mono HB3.out.size)⟩
  · go_enter Tryd.func18, Tryd.ntmps18
    go_wp2_with (first
      | (go_at_call 34; (with_reducible refine (N1.out _ HB.out).mono ?_); rintro e w2 ⟨rfl, hb2⟩; have HB2 := Lib.hid (HB.out.trans (hb2.mono HB.out.size)); have HR2 := Lib.hid (HR.out.below hb2); have c1 := HC1.out _ HR2.out; clear hb2)
      | (go_at_call 34; (with_reducible refine (N2.out _ HB2.out).mono ?_); rintro e w3 ⟨rfl, hb3⟩; have HB3 := Lib.hid (HB2.out.trans (hb3.mono HB2.out.size)); have HR3 := Lib.hid (HR2.out.below hb3); have c2 := HC2.out _ HR3.out; clear hb3)
      | ((with_reducible show wpList _ _ _ (⟨some 15, _, _, _, _, _⟩ :: _) _ _); go_must (refine wl_load rfl _ rfl _ _ r.at_ HA.out rfl (rf_at HR3.out) ?_))
      | (go_at_call 35; go_must (refine (N3.out _).mono ?_); rintro e w4 ⟨rfl, hb4⟩; have HB4 := Lib.hid (HB3.out.trans (hb4.mono HB3.out.size)); have HR4 := Lib.hid (HR3.out.below hb4); have c35 := HC35.out _ HR4.out; clear hb4)
      | (go_at_call 36; go_must (refine (N4.out _ HB4.out).mono ?_); rintro e w5 ⟨rfl, hb5⟩))
    go_ret
    exact ⟨boolR (by rw [HQ.out]; rfl), HB4.out.trans (hb5.mono HB4.out.size)⟩
#print axioms right_any
end Go.Proofs.YtejooogfnnidcaaDoor

namespace Go.Proofs.YtejooogfnnidcaaDoor
open Go.RowKit Go.Lib Go.Sort Go.Shelf

/-- Names in order. -/
def Asc (L : List RName) : Prop := ∀ i j, i < j → j < L.length → (gd L i).1 < (gd L j).1
theorem asc_of {L : List RName} (h : ∀ j, j + 1 < L.length → (gd L j).1 < (gd L (j + 1)).1) : Asc L := by
  intro i j hij hj
  induction j with
  | zero => omega
  | succ j ih =>
    rcases Nat.lt_or_ge i j with h1 | h1
    · exact List.lt_trans (ih h1 (by omega)) (h j hj)
    · obtain rfl : i = j := by omega
      exact h i hj
/-- How many stand ahead of a name. -/
def findF (L : List RName) (s : List UInt8) : Nat := (List.range L.length).countP fun i => decide ((gd L i).1 < s)
theorem findF_le (L : List RName) (s : List UInt8) : findF L s ≤ L.length := by
  have := List.countP_le_length (p := fun i => decide ((gd L i).1 < s)) (l := List.range L.length)
  unfold findF
  rwa [List.length_range] at this
theorem count_split {p : Nat → Bool} : ∀ n, (∀ i j, i ≤ j → j < n → p j = true → p i = true) → ∀ j, j < n → (p j = true ↔ j < (List.range n).countP p)
  | 0, _ => fun j hj => by omega
  | n + 1, h => fun j hj => by
    have ih := count_split n (fun i j h1 h2 h3 => h i j h1 (by omega) h3)
    rw [List.range_succ, List.countP_append]
    have hle : (List.range n).countP p ≤ n := by
      have := List.countP_le_length (p := p) (l := List.range n)
      rwa [List.length_range] at this
    cases hp : p n with
    | false =>
      simp only [List.countP_cons, List.countP_nil, hp, Bool.false_eq_true, if_false, Nat.add_zero]
      rcases Nat.lt_or_ge j n with h1 | h1
      · exact ih j h1
      · obtain rfl : j = n := by omega
        rw [hp]
        exact ⟨(fun h => by cases h), fun h => by omega⟩
    | true =>
      simp only [List.countP_cons, List.countP_nil, hp, if_true, Nat.zero_add]
      have hall : ∀ i, i < n → p i = true := fun i hi => h i n (by omega) (by omega) hp
      have hc : (List.range n).countP p = n := by
        have : (List.range n).countP p = (List.range n).length := List.countP_eq_length.2 fun i hi => hall i (List.mem_range.1 hi)
        rwa [List.length_range] at this
      rw [hc]
      rcases Nat.lt_or_ge j n with h1 | h1
      · exact ⟨fun _ => by omega, fun _ => hall j h1⟩
      · obtain rfl : j = n := by omega
        exact ⟨fun _ => by omega, fun _ => hp⟩
theorem findF_iff {L : List RName} (h : Asc L) (s : List UInt8) {j : Nat} (hj : j < L.length) : (gd L j).1 < s ↔ j < findF L s := by
  have := count_split (p := fun i => decide ((gd L i).1 < s)) L.length (fun i k h1 h2 h3 => by
    have h3 := of_decide_eq_true h3
    rcases Nat.lt_or_ge i k with h4 | h4
    · exact decide_eq_true (List.lt_trans (h i k h4 h2) h3)
    · obtain rfl : i = k := by omega
      exact decide_eq_true h3) j hj
  rw [decide_eq_true_iff] at this
  exact this
/-- Is a name there? -/
def thereF (L : List RName) (s : List UInt8) : Bool := decide (findF L s < L.length) && decide ((gd L (findF L s)).1 = s)
theorem str_is (x y : List UInt8) : ((strB x).toList == (strB y).toList) = decide (x = y) := by
  rw [Lib.toList_data, Lib.toList_data, strB_list, strB_list, Bool.eq_iff_iff, beq_iff_eq, decide_eq_true_iff]

set_option maxHeartbeats 1000000 in
theorem findC_any (gb gs b o c n i : Nat) (p q : ByteArray) (l : Bool) (W : World) (hi : i < n) (ha : W.cell? ⟨gb, 0, none⟩ = some (.slice (some ⟨b, o, none⟩) n c)) (hs : W.cell? ⟨gs, 0, none⟩ = some (.string q)) (hc : W.cell? ⟨b, o + i * 33, none⟩ = some (.string p)) (hl : Op.bytesLess p.toList q.toList = l) :
    Calls Tryd.prog 39 (#[.int .i64 i] ++ #[.pointer (some ⟨gb, 0, none⟩), .pointer (some ⟨gs, 0, none⟩)]) W fun e w' => e = .returned (.bool (!l)) ∧ ∃ q, w' = W.drewN q := by
  have hiz : (i : Int) < (n : Int) := by omega
  go_enter Tryd.func39, Tryd.ntmps39
  go_wp2
  go_region
  all_goals go_wp2
  all_goals go_ret
  all_goals exact ⟨by first | rfl | (rw [hl]; rfl) | simp [hl], 1, rfl⟩

theorem search_any (a : Option Addr) (n c : Nat) (L : List RName) (s : List UInt8) (w W0 : World) (gb gs : Nat) (h : AtG rnK w a n c L) (hA : Asc L) (hn : n < 4611686018427387904) (hb : Below w.heap.size w W0) (hgb : gb < W0.heap.size) (hgs : gs < W0.heap.size)
    (ca : W0.cell? ⟨gb, 0, none⟩ = some (.slice a n c)) (cs : W0.cell? ⟨gs, 0, none⟩ = some (.string (strB s))) :
    Calls Tryd.prog 38 #[.int .i64 n, .func (.func 39) #[] #[.pointer (some ⟨gb, 0, none⟩), .pointer (some ⟨gs, 0, none⟩)]] W0 fun e w' => e = .returned (.int .i64 (findF L s : Nat)) ∧ Below W0.heap.size W0 w' := by
  have eg : ∀ args w, (callFunc 39 args).run Tryd.prog w = .ok (.enter 39 args) w := enters_of Tryd.func39 (by kernel_rfl) rfl
  have hS := Tryd.sort_Search 39 #[.pointer (some ⟨gb, 0, none⟩), .pointer (some ⟨gs, 0, none⟩)] n (fun i => !decide ((gd L i).1 < s)) W0 eg hn
    (fun m os i hi => by
      obtain ⟨b, o, rfl⟩ := h.some_ (by omega)
      refine (findC_any gb gs b o c n i (strB (gd L i).1) (strB s) (decide ((gd L i).1 < s)) _ hi (cell_grown hgb ca m os) (cell_grown hgs cs m os) (rn_name ((h.below hb).below (below_grown_sl W0.heap.size W0 m os (Nat.le_refl _))) hi) (less_is _ _)).mono fun _ _ ⟨he, q, hq⟩ => ⟨he, q, #[], by rw [hq, grow_empty]⟩)
    (fun i j hij hj h1 => by
      have hl := h.1
      rcases Nat.lt_or_ge i j with h4 | h4
      · have h2 := hA i j h4 (by omega)
        simp only [Bool.not_eq_true', decide_eq_false_iff_not] at h1 ⊢
        exact fun h3 => h1 (List.lt_trans h2 h3)
      · obtain rfl : i = j := by omega
        exact h1)
  refine hS.mono fun e w' ⟨he, q, os, hw⟩ => ⟨?_, by rw [hw]; exact below_grown_sl _ _ _ _ (Nat.le_refl _)⟩
  rw [he]
  unfold findF
  rw [h.1]
  simp only [Bool.not_not]

set_option maxRecDepth 100000 in
set_option maxHeartbeats 1000000 in
theorem find_any (a : Option Addr) (n c : Nat) (L : List RName) (s : List UInt8) (w : World) (h : AtG rnK w a n c L) (hA : Asc L) (hn : n ≤ 100000) (k : Nat) (hk : findF L s = k) (t : Bool) (ht : thereF L s = t) :
    Calls Tryd.prog 20 #[.slice a n c, .string (strB s)] w fun e w' => e = .returned (.tuple #[.int .i64 k, .bool t]) ∧ Below w.heap.size w w' := by
  have hkn : k ≤ n := by rw [← hk, ← h.1]; exact findF_le L s
  have HLN := Lib.hid h.1
  have HN := Lib.hid h
  have hnI : (n : Int) ≤ 100000 := by omega
  have hk0 : (0 : Int) ≤ (k : Int) := by omega
  have hknI : (k : Int) ≤ (n : Int) := by omega
  have HS := Lib.hid (fun W0 gb gs hb hgb hgs ca cs => search_any a n c L s w W0 gb gs h hA (by omega) hb hgb hgs ca cs)
  rw [hk] at HS
  have HK := Lib.hid hk
  have HTH := Lib.hid ht
  obtain ⟨q, hq⟩ : ∃ q, strB s = q := ⟨_, rfl⟩
  have HQE := Lib.hid hq
  rw [hq] at HS ⊢
  obtain ⟨W0, hW0⟩ : ∃ W0, W0 = (w.alloc (.cells #[.slice a n c] 32)).alloc (.cells #[.string q] 9) := ⟨_, rfl⟩
  have hsz : W0.heap.size = w.heap.size + 1 + 1 := by rw [hW0]; simp
  have ca : W0.cell? ⟨w.heap.size, 0, none⟩ = some (.slice a n c) := by rw [hW0]; exact cell_alloc_sl _ (cell_new_sl w _ _)
  have cs : W0.cell? ⟨w.heap.size + 1, 0, none⟩ = some (.string q) := by rw [hW0]; have := cell_new_sl (w.alloc (.cells #[.slice a n c] 32)) (.string q) 9; rwa [World.size_alloc] at this
  have HB0 : Hid (Below w.heap.size w W0) := Lib.hid (by rw [hW0]; exact ((Below.refl _ w).alloc (Nat.le_refl _) _).alloc (by simp) _)
  have HSW := Lib.hid (HS.out W0 w.heap.size (w.heap.size + 1) HB0.out (by omega) (by omega) ca cs)
  have HSZ := Lib.hid hsz
  have HW0 := Lib.hid hW0
  have CA := Lib.hid (fun W (hW : Below W0.heap.size W0 W) => (by rw [hW.cell (p := ⟨w.heap.size, 0, none⟩) (show w.heap.size < W0.heap.size by omega)]; exact ca : W.cell? ⟨w.heap.size, 0, none⟩ = some (.slice a n c)))
  have CS := Lib.hid (fun W (hW : Below W0.heap.size W0 W) => (by rw [hW.cell (p := ⟨w.heap.size + 1, 0, none⟩) (show w.heap.size + 1 < W0.heap.size by omega)]; exact cs : W.cell? ⟨w.heap.size + 1, 0, none⟩ = some (.string q)))
  clear h hA hn hk ht hq hsz HS hW0
  by_cases hlt : (k : Int) < (n : Int)
  · have hltN : k < n := by omega
    obtain ⟨b, o, rfl⟩ := HN.out.some_ (by omega)
    obtain ⟨p, hp⟩ : ∃ p, strB (gd L k).1 = p := ⟨_, rfl⟩
    have CP := Lib.hid (fun W (hW : Below W0.heap.size W0 W) => (hp ▸ rn_name ((HN.out.below HB0.out).below hW) hltN : W.cell? ⟨b, o + k * 33, none⟩ = some (.string p)))
    have htq : (p.toList == q.toList) = t := by
      rw [← hp, ← HQE.out, str_is, ← HTH.out]
      unfold thereF
      rw [HK.out, HLN.out, decide_eq_true hltN]; rfl
    clear hp hltN ca cs
    go_enter Tryd.func20, Tryd.ntmps20
    go_wp2_with (go_at_call 38; rw [← HW0.out]; go_must (refine HSW.out.mono ?_); rintro e w2 ⟨rfl, hb2⟩; have ca2 := CA.out _ hb2; have cs2 := CS.out _ hb2; have cp2 := CP.out _ hb2; have HB2 := Lib.hid (HB0.out.trans (hb2.mono HB0.out.size)); clear hb2)
    go_quiet (fail)
    have HBq := Lib.hid (below_drewK HB2.out nq)
    generalize w2.drewN nq = wq at HBq ⊢
    go_wp2
    go_ret2
    exact ⟨rfl, HBq.out⟩
  · have hf : t = false := by
      rw [← HTH.out]
      unfold thereF
      rw [HK.out, HLN.out, decide_eq_false (by omega : ¬ k < n)]; rfl
    subst hf
    have hnl : decide ((k : Int) < (n : Int)) = false := decide_eq_false hlt
    have hnl2 : decide (k < n) = false := decide_eq_false (by omega)
    clear ca cs
    go_enter Tryd.func20, Tryd.ntmps20
    go_wp2_with (go_at_call 38; rw [← HW0.out]; go_must (refine HSW.out.mono ?_); rintro e w2 ⟨rfl, hb2⟩; have ca2 := CA.out _ hb2; have cs2 := CS.out _ hb2; have HB2 := Lib.hid (HB0.out.trans (hb2.mono HB0.out.size)); clear hb2)
    go_quiet (fail)
    have HBq := Lib.hid (below_drewK HB2.out nq)
    generalize w2.drewN nq = wq at HBq ⊢
    go_wp2
    go_ret2
    exact ⟨rfl, HBq.out⟩
#print axioms find_any
end Go.Proofs.YtejooogfnnidcaaDoor
