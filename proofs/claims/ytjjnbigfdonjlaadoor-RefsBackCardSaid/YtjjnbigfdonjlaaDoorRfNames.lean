/-
  The walk of rightNames: are names with their ids in order, and each one right?
-/
import Derived.Test.YtjjnbigfdonjlaaDoorGrp7
import Derived.Laws.Cover1
import Derived.Sort.Walk0
import Derived.Deep.RegionHeld
import Derived.Deep.LoopGhost
namespace Go.Proofs.YtjjnbigfdonjlaaDoor
open Go.RowKit

def RightN (L : List RName) : Prop := L.length ≤ 64 ∧ (∀ x ∈ L, nameF x.1 = true ∧ x.2 ≠ idZero) ∧ ∀ j, j + 1 < L.length → (gd L j).1 < (gd L (j + 1)).1
/-- So far. -/
def NOk (L : List RName) (i : Nat) : Prop := (∀ j, j < i → nameF (gd L j).1 = true ∧ (gd L j).2 ≠ idZero) ∧ ∀ j, j + 1 < i → (gd L j).1 < (gd L (j + 1)).1
theorem NOk.first {L : List RName} {X : RName} (_ : NOk L 0) (h1 : nameF X.1 = true) (h2 : ¬ X.2 = idZero) (hX : X = gd L 0) : NOk L (0 + 1) := by
  subst hX
  refine ⟨fun j hj => ?_, fun j hj => by omega⟩
  obtain rfl : j = 0 := by omega
  exact ⟨h1, h2⟩
theorem NOk.more {L : List RName} {X : RName} {j : Nat} (h : NOk L (j + 1)) (h1 : nameF X.1 = true) (h2 : ¬ X.2 = idZero) (hX : X = gd L (j + 1)) (hl : (gd L j).1 < X.1) : NOk L (j + 1 + 1) := by
  subst hX
  refine ⟨fun k hk => ?_, fun k hk => ?_⟩
  · rcases Nat.lt_or_ge k (j + 1) with h3 | h3
    · exact h.1 k h3
    · obtain rfl : k = j + 1 := by omega
      exact ⟨h1, h2⟩
  · rcases Nat.lt_or_ge (k + 1) (j + 1) with h3 | h3
    · exact h.2 k h3
    · obtain rfl : k = j := by omega
      exact hl
theorem NOk.all {L : List RName} (h : NOk L L.length) (hl : L.length ≤ 64) : RightN L := by
  refine ⟨hl, fun x hx => ?_, h.2⟩
  obtain ⟨j, hj, rfl⟩ := List.mem_iff_getElem.1 hx
  have := h.1 j hj
  have e : gd L j = L[j] := by unfold gd; simp [hj]
  rwa [e] at this
theorem RightN.step {L : List RName} {X : RName} {j n : Nat} (h : RightN L) (hi : j + 1 < n) (hX : X = gd L (j + 1)) (hn : L.length = n) : (gd L j).1 < X.1 := by
  subst hX
  exact h.2.2 j (by omega)
theorem rn_name {w : World} {b o n c j : Nat} {L : List RName} (h : AtG rnK w (some ⟨b, o, none⟩) n c L) (hj : j < n) : w.cell? ⟨b, o + j * 33, none⟩ = some (.string (strB (gd L j).1)) := by
  have := h.at_ j hj 0 _ (show (rnK.cells (gd L j))[0]? = some (.string (strB (gd L j).1)) from rfl)
  exact this
theorem rn_id {w : World} {b o n c j : Nat} {L : List RName} (h : AtG rnK w (some ⟨b, o, none⟩) n c L) (hj : j < n) : w.rangeAt b (o + j * 33 + 1) ((gd L j).2.map B) := fun i v hv => by
  have := h.at_ j hj (i + 1) v (by show (rnL (gd L j))[i + 1]? = some v; unfold rnL; rw [List.getElem?_cons_succ]; exact hv)
  have e : rnK.k = 33 := rfl
  rw [e] at this
  rw [show o + j * 33 + 1 + i = o + j * 33 + (i + 1) from by omega]
  exact this
theorem size33 {X : RName} (h : X.2.length = 32) : (Tryd.prog.info? NEf).map (·.size) = some (rnL X).length := by rw [rnL_len h]; kernel_rfl
theorem exec_loadRn {w : World} {o : Oper} {a : Act} (x : Operand) (ho : o.op = .load NEf x) (b off : Nat) (X : RName) (hX : X.2.length = 32) (hx : a.eval x = .pointer (some ⟨b, off, none⟩)) (hc : w.rangeAt b off (rnL X)) :
    (execOp a.eval o).run Tryd.prog w = .ok (.value (.agg (rnL X).toArray)) w := by
  have hr := run_loadVar_mid (P := Tryd.prog) w b off NEf (rnL X) _ hc Tryd.underlying55 rfl (size33 hX)
  unfold execOp
  simp only [ho, hx, Instr.loadAt, Instr.sureAddr, Sem.run_bind, Sem.run_pure, Result.andThen_ok, hr]
/-- A struct stored into a block that was made just now. -/
theorem store_new {E : TypeId} {vs : List Value} (hk : (Tryd.prog.info? E).map (·.size) = some vs.length) (h1 : ∀ v ∈ vs, v.oneCell' = true) {w : World} {cs : Array Value} (hcs : cs.size = vs.length) {ops : Array Oper} {rest : List Oper} {o : Oper} {a : Act} {Q : Exit → Act → World → Prop} (hgd : o.guard = none) (x y : Operand) (ho : o.op = .store E x y)
    (hx : a.eval x = .pointer (some ⟨w.heap.size, 0, none⟩)) (hy : a.eval y = .agg vs.toArray)
    (h : ∀ W, RowAt W w.heap.size E vs → Below w.heap.size w W → W.heap.size = w.heap.size + 1 → wpList Tryd.prog ops Q rest (a.put o.dst undef) W) : wpList Tryd.prog ops Q (o :: rest) a (w.alloc (.cells cs E)) := by
  have hg := heap_alloc_new w (.cells cs E)
  have hs : vs.toArray.size = vs.length := by simp
  refine wpList_store_row hgd E x y ho w.heap.size vs.toArray hx hy E cs hg (by rw [hs]; exact hk) (by rw [hs, hcs]) ?_ (h _ (setRow_heap _ _ cs vs.toArray _ _ hg) ?_ ?_)
  · rw [Array.all_eq_true_iff_forall_mem]
    intro v hv
    exact h1 v (by simpa using hv)
  · refine ⟨rfl, rfl, rfl, by simp [World.setRow], fun k hk => ?_⟩
    unfold World.setRow
    rw [Array.getElem?_modify, if_neg (by omega)]
    exact heap_alloc_old (h := hk) ..
  · simp [World.setRow]
theorem row_id {w : World} {g : Nat} {E : TypeId} {X : RName} (h : RowAt w g E (rnL X)) : w.rangeAt g 1 (X.2.map B) := by
  have := h.range (l := [.string (strB X.1)]) (m := X.2.map B) (r := []) (by simp [rnL])
  exact this
theorem less_is (a b : List UInt8) : Op.bytesLess (strB a).toList (strB b).toList = decide (a < b) := by
  rw [bytesLess_eq, ByteArray.toList_eq, ByteArray.toList_eq, strB_list, strB_list]

set_option maxRecDepth 100000 in
set_option maxHeartbeats 2000000 in
theorem names_any (a : Option Addr) (n c : Nat) (L : List RName) (w : World) (h : AtG rnK w a n c L) (q : Bool) (hq : q = true ↔ RightN L) :
    Calls Tryd.prog 27 #[.slice a n c] w fun e w' => e = .returned (.bool q) ∧ Below w.heap.size w w' := by
  have HLN := Lib.hid h.1
  have HN := Lib.hid h
  have HQ := Lib.hid hq
  have HF := Lib.hid (show ¬ RightN L → q = false from fun h => by
    cases q
    · rfl
    · exact absurd (HQ.out.1 rfl) h)
  have hnM : (n : Int) ≤ 9223372036854775807 := by have := h.2.1; have := h.2.2.1; omega
  clear hq
  by_cases h64 : (64 : Int) < (n : Int)
  · have d64 : decide (64 < n) = true := decide_eq_true (by omega)
    have HQ2 := Lib.hid (HF.out (fun h2 => by have := h2.1; have := HLN.out; omega))
    clear h
    go_enter Tryd.func27, Tryd.ntmps27
    go_wp2
    go_ret
    exact ⟨boolR HQ2.out.symm, Below.refl _ _⟩
  have hnI : (n : Int) ≤ 64 := by omega
  have HNI := Lib.hid hnI
  have d64 : decide (64 < n) = false := decide_eq_false (by omega)
  clear h h64
  go_enter Tryd.func27, Tryd.ntmps27
  go_wp2
  go_loopg [10] n (fun g v10 W => ∃ i : Nat, v10 = .int .i64 i ∧ g + i = n ∧ Hid (Below w.heap.size w W) ∧ Hid (NOk L i))
  case atStart => exact ⟨0, rfl, rfl, Lib.hid (Below.refl _ _), Lib.hid ⟨fun j hj => absurd hj (Nat.not_lt_zero _), fun j hj => absurd hj (Nat.not_lt_zero _)⟩⟩
  case round =>
    obtain ⟨i, rfl, hg, HB, HOK⟩ := hrel
    have HG := Lib.hid hg
    have hi0 : (0 : Int) ≤ (i : Int) := by omega
    have hiI : (i : Int) ≤ (n : Int) := by omega
    by_cases hi : (i : Int) < (n : Int)
    · have hin : i < n := by omega
      have HI := Lib.hid hin
      obtain ⟨b, o, rfl⟩ := HN.out.some_ (by omega)
      obtain ⟨X, hX⟩ : ∃ X, X = gd L i := ⟨_, rfl⟩
      have HXI : Hid (X.2.length = 32) := Lib.hid (hX ▸ HN.out.ok hin)
      have HXE := Lib.hid hX
      have HXM : Hid (X ∈ L) := Lib.hid (by rw [hX]; exact gd_mem (by rw [HLN.out]; exact hin))
      have HXR : Hid (wr.rangeAt b (o + i * 33) (rnL X)) := Lib.hid (hX ▸ (HN.out.below HB.out).at_ i hin)
      obtain ⟨p, hp⟩ : ∃ p, strB X.1 = p := ⟨_, rfl⟩
      have HPE := Lib.hid hp
      obtain ⟨m, hm⟩ : ∃ m, nameF X.1 = m := ⟨_, rfl⟩
      obtain ⟨z, hz⟩ : ∃ z, decide (X.2 = idZero) = z := ⟨_, rfl⟩
      have HNM := Lib.hid (fun W => hp ▸ name_is X.1 m hm W)
      have HZE := Lib.hid (fun W => zero_any X.2 HXI.out z hz W)
      have HME := Lib.hid hm
      have HZI := Lib.hid hz
      clear hg hX hp hm hz
      go_wp2_with (first
        | ((with_reducible show wpList _ _ _ (⟨some 14, _, _, _, _, _⟩ :: _) _ _); go_must (refine wl_ex rfl (exec_loadRn _ rfl _ _ X HXI.out rfl HXR.out) ?_))
        | ((with_reducible show wpList _ _ _ (⟨_, Op.store _ (.tmp 4) _, _, _, _, _⟩ :: _) _ _); go_must (refine store_new (vs := rnL X) (size33 HXI.out) (rnL_one X) (by rw [rnL_len HXI.out]; rfl) rfl _ _ rfl rfl rfl ?_); intro W4 hk4 hb4 hs4; have HBW := Lib.hid (HB.out.trans (hb4.mono HB.out.size)); have HK4 := Lib.hid hk4; generalize wr.heap.size = g4 at hk4 hs4 HK4 ⊢; clear hk4 hb4 hs4))
      have HCP := Lib.hid (fun W (hW : Below W4.heap.size W4 W) => (show W.cell? ⟨g4, 0, none⟩ = some (.string p) from by rw [← HPE.out]; exact (HK4.out.below hW).cell 0 rfl))
      have HCI := Lib.hid (fun W (hW : Below W4.heap.size W4 W) => row_id (HK4.out.below hW))
      have HBd : Hid (Below W4.heap.size W4 W4.drew) := Lib.hid (Below.refl _ _).drew
      have hi00 := hi0
      refine wp_region_held_drew (S := fun W => Below W4.heap.size W4 W) (by kernel_rfl) HBd.out (fun hHeld => ?_)
      refine wpAnyH_take (i := 0) (oi := ⟨some 15, .fieldAddr 55 (.tmp 4) 0, _, _, _, _⟩) (v := (.pointer (some ⟨g4, 0, none⟩))) rfl (by kernel_rfl) (by kernel_rfl) (by kernel_rfl) (fun _ _ _ h => h) (Or.inl ⟨by rfl, fun W hW => by go_simp⟩) (by assumption) ?_
      simp only [Act.put, List.setIfInBounds_toArray, List.set_cons_zero, List.set_cons_succ]
      refine wpAnyH_take (i := 1) (oi := ⟨some 16, .load 9 (.tmp 15), _, _, _, _⟩) (v := (.string p)) rfl (by kernel_rfl) (by kernel_rfl) (by kernel_rfl) (fun _ _ _ h => h) (Or.inl ⟨by rfl, fun W hW => by have hcell := HCP.out W hW; go_simp⟩) (by assumption) ?_
      simp only [Act.put, List.setIfInBounds_toArray, List.set_cons_zero, List.set_cons_succ]
      refine wpAnyH_ready (rs := [2]) (by kernel_rfl) (by simp) ?_
      refine AllReadyH.cons (o := ⟨some 17, .call { callee := .value (.func 58), args := #[(.tmp 16)], argTypes := #[9] }, _, _, _, _⟩) rfl (fun K hK => ?_) AllReadyH.nil
      go_simp
      go_wp2_with (go_at_call 58; go_must (refine (HNM.out _).mono ?_); rintro e w6 ⟨rfl, hb6⟩; have HX1 := Lib.hid (HBd.out.trans (hb6.mono HBd.out.size)); clear hb6)
      refine hK.out _ _ HX1.out (fun hHeld => ?_)
      clear hK K
      cases m
      · refine wpAnyH_take (i := 3) (oi := ⟨some 18, .unOp .not 4 (.tmp 17), _, _, _, _⟩) (v := (.bool true)) rfl (by kernel_rfl) (by kernel_rfl) (by kernel_rfl) (fun _ _ _ h => h) (Or.inl ⟨by rfl, fun W hW => by go_simp⟩) (by assumption) ?_
        simp only [Act.put, List.setIfInBounds_toArray, List.set_cons_zero, List.set_cons_succ]
        refine wpAnyH_take (i := 4) (oi := ⟨some 19, .move (.tmp 18), _, _, _, _⟩) (v := (.bool true)) rfl (by kernel_rfl) (by kernel_rfl) (by kernel_rfl) (fun _ _ _ h => h) (Or.inl ⟨by rfl, fun W hW => by go_simp⟩) (by assumption) ?_
        simp only [Act.put, List.setIfInBounds_toArray, List.set_cons_zero, List.set_cons_succ]
        refine wpAnyH_take (i := 5) (oi := ⟨some 20, .fieldAddr 55 (.tmp 4) 1, _, _, _, _⟩) (v := undef) rfl (by kernel_rfl) (by kernel_rfl) (by kernel_rfl) (fun _ _ _ h => h) (Or.inr ⟨by rfl, rfl⟩) (by assumption) ?_
        simp only [Act.put, List.setIfInBounds_toArray, List.set_cons_zero, List.set_cons_succ]
        refine wpAnyH_take (i := 6) (oi := ⟨some 21, .load 24 (.tmp 20), _, _, _, _⟩) (v := undef) rfl (by kernel_rfl) (by kernel_rfl) (by kernel_rfl) (fun _ _ _ h => h) (Or.inr ⟨by rfl, rfl⟩) (by assumption) ?_
        simp only [Act.put, List.setIfInBounds_toArray, List.set_cons_zero, List.set_cons_succ]
        refine wpAnyH_take (i := 7) (oi := ⟨some 22, .call { callee := .value (.func 59), args := #[(.tmp 21)], argTypes := #[24] }, _, _, _, _⟩) (v := undef) rfl (by kernel_rfl) (by kernel_rfl) (by kernel_rfl) (fun _ _ _ h => h) (Or.inr ⟨by rfl, rfl⟩) (by assumption) ?_
        simp only [Act.put, List.setIfInBounds_toArray, List.set_cons_zero, List.set_cons_succ]
        refine wpAnyH_take (i := 8) (oi := ⟨some 23, .pick (.tmp 19) (.const (.bool true)) (.tmp 22), _, _, _, _⟩) (v := (.bool true)) rfl (by kernel_rfl) (by kernel_rfl) (by kernel_rfl) (fun _ _ _ h => h) (Or.inl ⟨by rfl, fun W hW => by go_simp⟩) (by assumption) ?_
        simp only [Act.put, List.setIfInBounds_toArray, List.set_cons_zero, List.set_cons_succ]
        refine wpAnyH_take (i := 9) (oi := ⟨some 24, .move (.tmp 23), _, _, _, _⟩) (v := (.bool true)) rfl (by kernel_rfl) (by kernel_rfl) (by kernel_rfl) (fun _ _ _ h => h) (Or.inl ⟨by rfl, fun W hW => by go_simp⟩) (by assumption) ?_
        simp only [Act.put, List.setIfInBounds_toArray, List.set_cons_zero, List.set_cons_succ]
        refine wpAnyH_take (i := 10) (oi := ⟨some 25, .move (.tmp 3), _, _, _, _⟩) (v := undef) rfl (by kernel_rfl) (by kernel_rfl) (by kernel_rfl) (fun _ _ _ h => h) (Or.inr ⟨by rfl, rfl⟩) (by assumption) ?_
        simp only [Act.put, List.setIfInBounds_toArray, List.set_cons_zero, List.set_cons_succ]
        refine wpAnyH_take (i := 11) (oi := ⟨some 26, .binOp .gtr 3 (.tmp 25) (.const (.int .i64 0)) 3, _, _, _, _⟩) (v := undef) rfl (by kernel_rfl) (by kernel_rfl) (by kernel_rfl) (fun _ _ _ h => h) (Or.inr ⟨by rfl, rfl⟩) (by assumption) ?_
        simp only [Act.put, List.setIfInBounds_toArray, List.set_cons_zero, List.set_cons_succ]
        refine wpAnyH_take (i := 12) (oi := ⟨some 27, .move (.tmp 26), _, _, _, _⟩) (v := undef) rfl (by kernel_rfl) (by kernel_rfl) (by kernel_rfl) (fun _ _ _ h => h) (Or.inr ⟨by rfl, rfl⟩) (by assumption) ?_
        simp only [Act.put, List.setIfInBounds_toArray, List.set_cons_zero, List.set_cons_succ]
        refine wpAnyH_take (i := 13) (oi := ⟨some 28, .move (.tmp 0), _, _, _, _⟩) (v := undef) rfl (by kernel_rfl) (by kernel_rfl) (by kernel_rfl) (fun _ _ _ h => h) (Or.inr ⟨by rfl, rfl⟩) (by assumption) ?_
        simp only [Act.put, List.setIfInBounds_toArray, List.set_cons_zero, List.set_cons_succ]
        refine wpAnyH_take (i := 14) (oi := ⟨some 29, .move (.tmp 3), _, _, _, _⟩) (v := undef) rfl (by kernel_rfl) (by kernel_rfl) (by kernel_rfl) (fun _ _ _ h => h) (Or.inr ⟨by rfl, rfl⟩) (by assumption) ?_
        simp only [Act.put, List.setIfInBounds_toArray, List.set_cons_zero, List.set_cons_succ]
        refine wpAnyH_take (i := 15) (oi := ⟨some 30, .binOp .sub 3 (.tmp 29) (.const (.int .i64 1)) 3, _, _, _, _⟩) (v := undef) rfl (by kernel_rfl) (by kernel_rfl) (by kernel_rfl) (fun _ _ _ h => h) (Or.inr ⟨by rfl, rfl⟩) (by assumption) ?_
        simp only [Act.put, List.setIfInBounds_toArray, List.set_cons_zero, List.set_cons_succ]
        refine wpAnyH_take (i := 16) (oi := ⟨some 31, .indexAddr 33 (.tmp 28) (.tmp 30), _, _, _, _⟩) (v := undef) rfl (by kernel_rfl) (by kernel_rfl) (by kernel_rfl) (fun _ _ _ h => h) (Or.inr ⟨by rfl, rfl⟩) (by assumption) ?_
        simp only [Act.put, List.setIfInBounds_toArray, List.set_cons_zero, List.set_cons_succ]
        refine wpAnyH_take (i := 17) (oi := ⟨some 32, .fieldAddr 55 (.tmp 31) 0, _, _, _, _⟩) (v := undef) rfl (by kernel_rfl) (by kernel_rfl) (by kernel_rfl) (fun _ _ _ h => h) (Or.inr ⟨by rfl, rfl⟩) (by assumption) ?_
        simp only [Act.put, List.setIfInBounds_toArray, List.set_cons_zero, List.set_cons_succ]
        refine wpAnyH_take (i := 18) (oi := ⟨some 33, .load 9 (.tmp 32), _, _, _, _⟩) (v := undef) rfl (by kernel_rfl) (by kernel_rfl) (by kernel_rfl) (fun _ _ _ h => h) (Or.inr ⟨by rfl, rfl⟩) (by assumption) ?_
        simp only [Act.put, List.setIfInBounds_toArray, List.set_cons_zero, List.set_cons_succ]
        refine wpAnyH_take (i := 19) (oi := ⟨some 34, .fieldAddr 55 (.tmp 4) 0, _, _, _, _⟩) (v := undef) rfl (by kernel_rfl) (by kernel_rfl) (by kernel_rfl) (fun _ _ _ h => h) (Or.inr ⟨by rfl, rfl⟩) (by assumption) ?_
        simp only [Act.put, List.setIfInBounds_toArray, List.set_cons_zero, List.set_cons_succ]
        refine wpAnyH_take (i := 20) (oi := ⟨some 35, .load 9 (.tmp 34), _, _, _, _⟩) (v := undef) rfl (by kernel_rfl) (by kernel_rfl) (by kernel_rfl) (fun _ _ _ h => h) (Or.inr ⟨by rfl, rfl⟩) (by assumption) ?_
        simp only [Act.put, List.setIfInBounds_toArray, List.set_cons_zero, List.set_cons_succ]
        refine wpAnyH_take (i := 21) (oi := ⟨some 36, .binOp .geq 9 (.tmp 33) (.tmp 35) 9, _, _, _, _⟩) (v := undef) rfl (by kernel_rfl) (by kernel_rfl) (by kernel_rfl) (fun _ _ _ h => h) (Or.inr ⟨by rfl, rfl⟩) (by assumption) ?_
        simp only [Act.put, List.setIfInBounds_toArray, List.set_cons_zero, List.set_cons_succ]
        refine wpAnyH_take (i := 22) (oi := ⟨some 37, .pick (.tmp 27) (.tmp 36) (.const (.bool false)), _, _, _, _⟩) (v := undef) rfl (by kernel_rfl) (by kernel_rfl) (by kernel_rfl) (fun _ _ _ h => h) (Or.inr ⟨by rfl, rfl⟩) (by assumption) ?_
        simp only [Act.put, List.setIfInBounds_toArray, List.set_cons_zero, List.set_cons_succ]
        refine wpAnyH_take (i := 23) (oi := ⟨some 38, .pick (.tmp 24) (.const (.bool true)) (.tmp 37), _, _, _, _⟩) (v := (.bool true)) rfl (by kernel_rfl) (by kernel_rfl) (by kernel_rfl) (fun _ _ _ h => h) (Or.inl ⟨by rfl, fun W hW => by go_simp⟩) (by assumption) ?_
        simp only [Act.put, List.setIfInBounds_toArray, List.set_cons_zero, List.set_cons_succ]
        refine wpAnyH_done (by kernel_rfl) ?_ _
        have HZ := Lib.hid (Below.trans HBW.out (HX1.out.mono HBW.out.size))
        have HQ := Lib.hid (HF.out (fun h => by have := (h.2.1 X HXM.out).1; rw [HME.out] at this; cases this))
        go_wp2_with fail
        go_ret
        exact ⟨boolR HQ.out.symm, HZ.out⟩
      · refine wpAnyH_take (i := 3) (oi := ⟨some 18, .unOp .not 4 (.tmp 17), _, _, _, _⟩) (v := (.bool false)) rfl (by kernel_rfl) (by kernel_rfl) (by kernel_rfl) (fun _ _ _ h => h) (Or.inl ⟨by rfl, fun W hW => by go_simp⟩) (by assumption) ?_
        simp only [Act.put, List.setIfInBounds_toArray, List.set_cons_zero, List.set_cons_succ]
        refine wpAnyH_take (i := 4) (oi := ⟨some 19, .move (.tmp 18), _, _, _, _⟩) (v := (.bool false)) rfl (by kernel_rfl) (by kernel_rfl) (by kernel_rfl) (fun _ _ _ h => h) (Or.inl ⟨by rfl, fun W hW => by go_simp⟩) (by assumption) ?_
        simp only [Act.put, List.setIfInBounds_toArray, List.set_cons_zero, List.set_cons_succ]
        refine wpAnyH_take (i := 5) (oi := ⟨some 20, .fieldAddr 55 (.tmp 4) 1, _, _, _, _⟩) (v := (.pointer (some ⟨g4, 1, none⟩))) rfl (by kernel_rfl) (by kernel_rfl) (by kernel_rfl) (fun _ _ _ h => h) (Or.inl ⟨by rfl, fun W hW => by go_simp⟩) (by assumption) ?_
        simp only [Act.put, List.setIfInBounds_toArray, List.set_cons_zero, List.set_cons_succ]
        refine wpAnyH_take (i := 6) (oi := ⟨some 21, .load 24 (.tmp 20), _, _, _, _⟩) (v := (.agg (idCells X.2))) rfl (by kernel_rfl) (by kernel_rfl) (by kernel_rfl) (fun _ _ _ h => h) (Or.inl ⟨by rfl, fun W hW => exec_loadId _ rfl _ _ X.2 HXI.out rfl (HCI.out W hW)⟩) (by assumption) ?_
        simp only [Act.put, List.setIfInBounds_toArray, List.set_cons_zero, List.set_cons_succ]
        refine wpAnyH_ready (rs := [7]) (by kernel_rfl) (by simp) ?_
        refine AllReadyH.cons (o := ⟨some 22, .call { callee := .value (.func 59), args := #[(.tmp 21)], argTypes := #[24] }, _, _, _, _⟩) rfl (fun K hK => ?_) AllReadyH.nil
        go_simp
        go_wp2_with (go_at_call 59; go_must (refine (HZE.out _).mono ?_); rintro e w7 ⟨rfl, hb7⟩; have HX2 := Lib.hid (HX1.out.trans (hb7.mono HX1.out.size)); clear hb7)
        refine hK.out _ _ HX2.out (fun hHeld => ?_)
        clear hK K
        cases z
        · refine wpAnyH_take (i := 8) (oi := ⟨some 23, .pick (.tmp 19) (.const (.bool true)) (.tmp 22), _, _, _, _⟩) (v := (.bool false)) rfl (by kernel_rfl) (by kernel_rfl) (by kernel_rfl) (fun _ _ _ h => h) (Or.inl ⟨by rfl, fun W hW => by go_simp⟩) (by assumption) ?_
          simp only [Act.put, List.setIfInBounds_toArray, List.set_cons_zero, List.set_cons_succ]
          refine wpAnyH_take (i := 9) (oi := ⟨some 24, .move (.tmp 23), _, _, _, _⟩) (v := (.bool false)) rfl (by kernel_rfl) (by kernel_rfl) (by kernel_rfl) (fun _ _ _ h => h) (Or.inl ⟨by rfl, fun W hW => by go_simp⟩) (by assumption) ?_
          simp only [Act.put, List.setIfInBounds_toArray, List.set_cons_zero, List.set_cons_succ]
          refine wpAnyH_take (i := 10) (oi := ⟨some 25, .move (.tmp 3), _, _, _, _⟩) (v := (.int .i64 (i : Nat))) rfl (by kernel_rfl) (by kernel_rfl) (by kernel_rfl) (fun _ _ _ h => h) (Or.inl ⟨by rfl, fun W hW => by go_simp⟩) (by assumption) ?_
          simp only [Act.put, List.setIfInBounds_toArray, List.set_cons_zero, List.set_cons_succ]
          by_cases hi1 : i = 0
          · subst hi1
            refine wpAnyH_take (i := 11) (oi := ⟨some 26, .binOp .gtr 3 (.tmp 25) (.const (.int .i64 0)) 3, _, _, _, _⟩) (v := (.bool false)) rfl (by kernel_rfl) (by kernel_rfl) (by kernel_rfl) (fun _ _ _ h => h) (Or.inl ⟨by rfl, fun W hW => by go_simp⟩) (by assumption) ?_
            simp only [Act.put, List.setIfInBounds_toArray, List.set_cons_zero, List.set_cons_succ]
            refine wpAnyH_take (i := 12) (oi := ⟨some 27, .move (.tmp 26), _, _, _, _⟩) (v := (.bool false)) rfl (by kernel_rfl) (by kernel_rfl) (by kernel_rfl) (fun _ _ _ h => h) (Or.inl ⟨by rfl, fun W hW => by go_simp⟩) (by assumption) ?_
            simp only [Act.put, List.setIfInBounds_toArray, List.set_cons_zero, List.set_cons_succ]
            refine wpAnyH_take (i := 13) (oi := ⟨some 28, .move (.tmp 0), _, _, _, _⟩) (v := undef) rfl (by kernel_rfl) (by kernel_rfl) (by kernel_rfl) (fun _ _ _ h => h) (Or.inr ⟨by rfl, rfl⟩) (by assumption) ?_
            simp only [Act.put, List.setIfInBounds_toArray, List.set_cons_zero, List.set_cons_succ]
            refine wpAnyH_take (i := 14) (oi := ⟨some 29, .move (.tmp 3), _, _, _, _⟩) (v := undef) rfl (by kernel_rfl) (by kernel_rfl) (by kernel_rfl) (fun _ _ _ h => h) (Or.inr ⟨by rfl, rfl⟩) (by assumption) ?_
            simp only [Act.put, List.setIfInBounds_toArray, List.set_cons_zero, List.set_cons_succ]
            refine wpAnyH_take (i := 15) (oi := ⟨some 30, .binOp .sub 3 (.tmp 29) (.const (.int .i64 1)) 3, _, _, _, _⟩) (v := undef) rfl (by kernel_rfl) (by kernel_rfl) (by kernel_rfl) (fun _ _ _ h => h) (Or.inr ⟨by rfl, rfl⟩) (by assumption) ?_
            simp only [Act.put, List.setIfInBounds_toArray, List.set_cons_zero, List.set_cons_succ]
            refine wpAnyH_take (i := 16) (oi := ⟨some 31, .indexAddr 33 (.tmp 28) (.tmp 30), _, _, _, _⟩) (v := undef) rfl (by kernel_rfl) (by kernel_rfl) (by kernel_rfl) (fun _ _ _ h => h) (Or.inr ⟨by rfl, rfl⟩) (by assumption) ?_
            simp only [Act.put, List.setIfInBounds_toArray, List.set_cons_zero, List.set_cons_succ]
            refine wpAnyH_take (i := 17) (oi := ⟨some 32, .fieldAddr 55 (.tmp 31) 0, _, _, _, _⟩) (v := undef) rfl (by kernel_rfl) (by kernel_rfl) (by kernel_rfl) (fun _ _ _ h => h) (Or.inr ⟨by rfl, rfl⟩) (by assumption) ?_
            simp only [Act.put, List.setIfInBounds_toArray, List.set_cons_zero, List.set_cons_succ]
            refine wpAnyH_take (i := 18) (oi := ⟨some 33, .load 9 (.tmp 32), _, _, _, _⟩) (v := undef) rfl (by kernel_rfl) (by kernel_rfl) (by kernel_rfl) (fun _ _ _ h => h) (Or.inr ⟨by rfl, rfl⟩) (by assumption) ?_
            simp only [Act.put, List.setIfInBounds_toArray, List.set_cons_zero, List.set_cons_succ]
            refine wpAnyH_take (i := 19) (oi := ⟨some 34, .fieldAddr 55 (.tmp 4) 0, _, _, _, _⟩) (v := undef) rfl (by kernel_rfl) (by kernel_rfl) (by kernel_rfl) (fun _ _ _ h => h) (Or.inr ⟨by rfl, rfl⟩) (by assumption) ?_
            simp only [Act.put, List.setIfInBounds_toArray, List.set_cons_zero, List.set_cons_succ]
            refine wpAnyH_take (i := 20) (oi := ⟨some 35, .load 9 (.tmp 34), _, _, _, _⟩) (v := undef) rfl (by kernel_rfl) (by kernel_rfl) (by kernel_rfl) (fun _ _ _ h => h) (Or.inr ⟨by rfl, rfl⟩) (by assumption) ?_
            simp only [Act.put, List.setIfInBounds_toArray, List.set_cons_zero, List.set_cons_succ]
            refine wpAnyH_take (i := 21) (oi := ⟨some 36, .binOp .geq 9 (.tmp 33) (.tmp 35) 9, _, _, _, _⟩) (v := undef) rfl (by kernel_rfl) (by kernel_rfl) (by kernel_rfl) (fun _ _ _ h => h) (Or.inr ⟨by rfl, rfl⟩) (by assumption) ?_
            simp only [Act.put, List.setIfInBounds_toArray, List.set_cons_zero, List.set_cons_succ]
            refine wpAnyH_take (i := 22) (oi := ⟨some 37, .pick (.tmp 27) (.tmp 36) (.const (.bool false)), _, _, _, _⟩) (v := (.bool false)) rfl (by kernel_rfl) (by kernel_rfl) (by kernel_rfl) (fun _ _ _ h => h) (Or.inl ⟨by rfl, fun W hW => by go_simp⟩) (by assumption) ?_
            simp only [Act.put, List.setIfInBounds_toArray, List.set_cons_zero, List.set_cons_succ]
            refine wpAnyH_take (i := 23) (oi := ⟨some 38, .pick (.tmp 24) (.const (.bool true)) (.tmp 37), _, _, _, _⟩) (v := (.bool false)) rfl (by kernel_rfl) (by kernel_rfl) (by kernel_rfl) (fun _ _ _ h => h) (Or.inl ⟨by rfl, fun W hW => by go_simp⟩) (by assumption) ?_
            simp only [Act.put, List.setIfInBounds_toArray, List.set_cons_zero, List.set_cons_succ]
            refine wpAnyH_done (by kernel_rfl) ?_ _
            go_wp2_with fail
            go_roundg (n - (0 + 1))
            case measure => have := HG.out; have := HI.out; omega
            case rel => exact ⟨0 + 1, by go_num, by have := HI.out; omega, Lib.hid (HBW.out.trans (HX2.out.mono HBW.out.size)), Lib.hid (HOK.out.first HME.out (of_decide_eq_false HZI.out) HXE.out)⟩
          · obtain ⟨j, rfl⟩ : ∃ j, i = j + 1 := ⟨i - 1, by omega⟩
            have hjn : j < n := by have := HI.out; omega
            have hj0 : (0 : Int) ≤ (j : Int) := by omega
            have hjnI : (j : Int) < (n : Int) := by omega
            have hj1 : (j : Int) + 1 - 1 = (j : Int) := by omega
            have hjp : (0 : Int) < (j : Int) + 1 := by omega
            have hjW : IntKind.i64.wrap (j : Int) = (j : Int) := IntWalk.i64_in _ (by omega)
            obtain ⟨y, hy⟩ : ∃ y, strB (gd L j).1 = y := ⟨_, rfl⟩
            have HCY := Lib.hid (fun W (hW : Below W4.heap.size W4 W) => (hy ▸ rn_name ((HN.out.below HBW.out).below hW) hjn : W.cell? ⟨b, o + j * 33, none⟩ = some (.string y)))
            obtain ⟨l, hl⟩ : ∃ l, decide ((gd L j).1 < X.1) = l := ⟨_, rfl⟩
            have HLS : Hid (Op.bytesLess y.toList p.toList = l) := Lib.hid (by rw [← hy, ← HPE.out, less_is, hl])
            clear hi1 hy hjn
            refine wpAnyH_take (i := 11) (oi := ⟨some 26, .binOp .gtr 3 (.tmp 25) (.const (.int .i64 0)) 3, _, _, _, _⟩) (v := (.bool true)) rfl (by kernel_rfl) (by kernel_rfl) (by kernel_rfl) (fun _ _ _ h => h) (Or.inl ⟨by rfl, fun W hW => by go_simp⟩) (by assumption) ?_
            simp only [Act.put, List.setIfInBounds_toArray, List.set_cons_zero, List.set_cons_succ]
            refine wpAnyH_take (i := 12) (oi := ⟨some 27, .move (.tmp 26), _, _, _, _⟩) (v := (.bool true)) rfl (by kernel_rfl) (by kernel_rfl) (by kernel_rfl) (fun _ _ _ h => h) (Or.inl ⟨by rfl, fun W hW => by go_simp⟩) (by assumption) ?_
            simp only [Act.put, List.setIfInBounds_toArray, List.set_cons_zero, List.set_cons_succ]
            refine wpAnyH_take (i := 13) (oi := ⟨some 28, .move (.tmp 0), _, _, _, _⟩) (v := (.slice (some ⟨b, o, none⟩) n c)) rfl (by kernel_rfl) (by kernel_rfl) (by kernel_rfl) (fun _ _ _ h => h) (Or.inl ⟨by rfl, fun W hW => by go_simp⟩) (by assumption) ?_
            simp only [Act.put, List.setIfInBounds_toArray, List.set_cons_zero, List.set_cons_succ]
            refine wpAnyH_take (i := 14) (oi := ⟨some 29, .move (.tmp 3), _, _, _, _⟩) (v := (.int .i64 ((j + 1 : Nat) : Int))) rfl (by kernel_rfl) (by kernel_rfl) (by kernel_rfl) (fun _ _ _ h => h) (Or.inl ⟨by rfl, fun W hW => by go_simp⟩) (by assumption) ?_
            simp only [Act.put, List.setIfInBounds_toArray, List.set_cons_zero, List.set_cons_succ]
            refine wpAnyH_take (i := 15) (oi := ⟨some 30, .binOp .sub 3 (.tmp 29) (.const (.int .i64 1)) 3, _, _, _, _⟩) (v := (.int .i64 (j : Nat))) rfl (by kernel_rfl) (by kernel_rfl) (by kernel_rfl) (fun _ _ _ h => h) (Or.inl ⟨by rfl, fun W hW => by go_simp⟩) (by assumption) ?_
            simp only [Act.put, List.setIfInBounds_toArray, List.set_cons_zero, List.set_cons_succ]
            refine wpAnyH_take (i := 16) (oi := ⟨some 31, .indexAddr 33 (.tmp 28) (.tmp 30), _, _, _, _⟩) (v := (.pointer (some ⟨b, o + j * 33, none⟩))) rfl (by kernel_rfl) (by kernel_rfl) (by kernel_rfl) (fun _ _ _ h => h) (Or.inl ⟨by rfl, fun W hW => by go_simp⟩) (by assumption) ?_
            simp only [Act.put, List.setIfInBounds_toArray, List.set_cons_zero, List.set_cons_succ]
            refine wpAnyH_take (i := 17) (oi := ⟨some 32, .fieldAddr 55 (.tmp 31) 0, _, _, _, _⟩) (v := (.pointer (some ⟨b, o + j * 33, none⟩))) rfl (by kernel_rfl) (by kernel_rfl) (by kernel_rfl) (fun _ _ _ h => h) (Or.inl ⟨by rfl, fun W hW => by go_simp⟩) (by assumption) ?_
            simp only [Act.put, List.setIfInBounds_toArray, List.set_cons_zero, List.set_cons_succ]
            refine wpAnyH_take (i := 18) (oi := ⟨some 33, .load 9 (.tmp 32), _, _, _, _⟩) (v := (.string y)) rfl (by kernel_rfl) (by kernel_rfl) (by kernel_rfl) (fun _ _ _ h => h) (Or.inl ⟨by rfl, fun W hW => by have hcell := HCY.out W hW; go_simp⟩) (by assumption) ?_
            simp only [Act.put, List.setIfInBounds_toArray, List.set_cons_zero, List.set_cons_succ]
            refine wpAnyH_take (i := 19) (oi := ⟨some 34, .fieldAddr 55 (.tmp 4) 0, _, _, _, _⟩) (v := (.pointer (some ⟨g4, 0, none⟩))) rfl (by kernel_rfl) (by kernel_rfl) (by kernel_rfl) (fun _ _ _ h => h) (Or.inl ⟨by rfl, fun W hW => by go_simp⟩) (by assumption) ?_
            simp only [Act.put, List.setIfInBounds_toArray, List.set_cons_zero, List.set_cons_succ]
            refine wpAnyH_take (i := 20) (oi := ⟨some 35, .load 9 (.tmp 34), _, _, _, _⟩) (v := (.string p)) rfl (by kernel_rfl) (by kernel_rfl) (by kernel_rfl) (fun _ _ _ h => h) (Or.inl ⟨by rfl, fun W hW => by have hcell := HCP.out W hW; go_simp⟩) (by assumption) ?_
            simp only [Act.put, List.setIfInBounds_toArray, List.set_cons_zero, List.set_cons_succ]
            refine wpAnyH_take (i := 21) (oi := ⟨some 36, .binOp .geq 9 (.tmp 33) (.tmp 35) 9, _, _, _, _⟩) (v := (.bool (!l))) rfl (by kernel_rfl) (by kernel_rfl) (by kernel_rfl) (fun _ _ _ h => h) (Or.inl ⟨by rfl, fun W hW => by have hl := HLS.out; go_simp⟩) (by assumption) ?_
            simp only [Act.put, List.setIfInBounds_toArray, List.set_cons_zero, List.set_cons_succ]
            refine wpAnyH_take (i := 22) (oi := ⟨some 37, .pick (.tmp 27) (.tmp 36) (.const (.bool false)), _, _, _, _⟩) (v := (.bool (!l))) rfl (by kernel_rfl) (by kernel_rfl) (by kernel_rfl) (fun _ _ _ h => h) (Or.inl ⟨by rfl, fun W hW => by go_simp⟩) (by assumption) ?_
            simp only [Act.put, List.setIfInBounds_toArray, List.set_cons_zero, List.set_cons_succ]
            refine wpAnyH_take (i := 23) (oi := ⟨some 38, .pick (.tmp 24) (.const (.bool true)) (.tmp 37), _, _, _, _⟩) (v := (.bool (!l))) rfl (by kernel_rfl) (by kernel_rfl) (by kernel_rfl) (fun _ _ _ h => h) (Or.inl ⟨by rfl, fun W hW => by go_simp⟩) (by assumption) ?_
            simp only [Act.put, List.setIfInBounds_toArray, List.set_cons_zero, List.set_cons_succ]
            cases l
            · have HLL := Lib.hid (of_decide_eq_false hl)
              clear hl
              refine wpAnyH_done (by kernel_rfl) ?_ _
              have HZ := Lib.hid (Below.trans HBW.out (HX2.out.mono HBW.out.size))
              have HQ := Lib.hid (HF.out (fun h => HLL.out (h.step HI.out HXE.out HLN.out)))
              go_wp2_with fail
              go_ret
              exact ⟨boolR HQ.out.symm, HZ.out⟩
            · have HLL := Lib.hid (of_decide_eq_true hl)
              clear hl
              refine wpAnyH_done (by kernel_rfl) ?_ _
              go_wp2_with fail
              go_roundg (n - (j + 1 + 1))
              case measure => have := HG.out; have := HI.out; omega
              case rel => exact ⟨j + 1 + 1, by go_num, by have := HI.out; omega, Lib.hid (HBW.out.trans (HX2.out.mono HBW.out.size)), Lib.hid (HOK.out.more HME.out (of_decide_eq_false HZI.out) HXE.out HLL.out)⟩
        · refine wpAnyH_take (i := 8) (oi := ⟨some 23, .pick (.tmp 19) (.const (.bool true)) (.tmp 22), _, _, _, _⟩) (v := (.bool true)) rfl (by kernel_rfl) (by kernel_rfl) (by kernel_rfl) (fun _ _ _ h => h) (Or.inl ⟨by rfl, fun W hW => by go_simp⟩) (by assumption) ?_
          simp only [Act.put, List.setIfInBounds_toArray, List.set_cons_zero, List.set_cons_succ]
          refine wpAnyH_take (i := 9) (oi := ⟨some 24, .move (.tmp 23), _, _, _, _⟩) (v := (.bool true)) rfl (by kernel_rfl) (by kernel_rfl) (by kernel_rfl) (fun _ _ _ h => h) (Or.inl ⟨by rfl, fun W hW => by go_simp⟩) (by assumption) ?_
          simp only [Act.put, List.setIfInBounds_toArray, List.set_cons_zero, List.set_cons_succ]
          refine wpAnyH_take (i := 10) (oi := ⟨some 25, .move (.tmp 3), _, _, _, _⟩) (v := undef) rfl (by kernel_rfl) (by kernel_rfl) (by kernel_rfl) (fun _ _ _ h => h) (Or.inr ⟨by rfl, rfl⟩) (by assumption) ?_
          simp only [Act.put, List.setIfInBounds_toArray, List.set_cons_zero, List.set_cons_succ]
          refine wpAnyH_take (i := 11) (oi := ⟨some 26, .binOp .gtr 3 (.tmp 25) (.const (.int .i64 0)) 3, _, _, _, _⟩) (v := undef) rfl (by kernel_rfl) (by kernel_rfl) (by kernel_rfl) (fun _ _ _ h => h) (Or.inr ⟨by rfl, rfl⟩) (by assumption) ?_
          simp only [Act.put, List.setIfInBounds_toArray, List.set_cons_zero, List.set_cons_succ]
          refine wpAnyH_take (i := 12) (oi := ⟨some 27, .move (.tmp 26), _, _, _, _⟩) (v := undef) rfl (by kernel_rfl) (by kernel_rfl) (by kernel_rfl) (fun _ _ _ h => h) (Or.inr ⟨by rfl, rfl⟩) (by assumption) ?_
          simp only [Act.put, List.setIfInBounds_toArray, List.set_cons_zero, List.set_cons_succ]
          refine wpAnyH_take (i := 13) (oi := ⟨some 28, .move (.tmp 0), _, _, _, _⟩) (v := undef) rfl (by kernel_rfl) (by kernel_rfl) (by kernel_rfl) (fun _ _ _ h => h) (Or.inr ⟨by rfl, rfl⟩) (by assumption) ?_
          simp only [Act.put, List.setIfInBounds_toArray, List.set_cons_zero, List.set_cons_succ]
          refine wpAnyH_take (i := 14) (oi := ⟨some 29, .move (.tmp 3), _, _, _, _⟩) (v := undef) rfl (by kernel_rfl) (by kernel_rfl) (by kernel_rfl) (fun _ _ _ h => h) (Or.inr ⟨by rfl, rfl⟩) (by assumption) ?_
          simp only [Act.put, List.setIfInBounds_toArray, List.set_cons_zero, List.set_cons_succ]
          refine wpAnyH_take (i := 15) (oi := ⟨some 30, .binOp .sub 3 (.tmp 29) (.const (.int .i64 1)) 3, _, _, _, _⟩) (v := undef) rfl (by kernel_rfl) (by kernel_rfl) (by kernel_rfl) (fun _ _ _ h => h) (Or.inr ⟨by rfl, rfl⟩) (by assumption) ?_
          simp only [Act.put, List.setIfInBounds_toArray, List.set_cons_zero, List.set_cons_succ]
          refine wpAnyH_take (i := 16) (oi := ⟨some 31, .indexAddr 33 (.tmp 28) (.tmp 30), _, _, _, _⟩) (v := undef) rfl (by kernel_rfl) (by kernel_rfl) (by kernel_rfl) (fun _ _ _ h => h) (Or.inr ⟨by rfl, rfl⟩) (by assumption) ?_
          simp only [Act.put, List.setIfInBounds_toArray, List.set_cons_zero, List.set_cons_succ]
          refine wpAnyH_take (i := 17) (oi := ⟨some 32, .fieldAddr 55 (.tmp 31) 0, _, _, _, _⟩) (v := undef) rfl (by kernel_rfl) (by kernel_rfl) (by kernel_rfl) (fun _ _ _ h => h) (Or.inr ⟨by rfl, rfl⟩) (by assumption) ?_
          simp only [Act.put, List.setIfInBounds_toArray, List.set_cons_zero, List.set_cons_succ]
          refine wpAnyH_take (i := 18) (oi := ⟨some 33, .load 9 (.tmp 32), _, _, _, _⟩) (v := undef) rfl (by kernel_rfl) (by kernel_rfl) (by kernel_rfl) (fun _ _ _ h => h) (Or.inr ⟨by rfl, rfl⟩) (by assumption) ?_
          simp only [Act.put, List.setIfInBounds_toArray, List.set_cons_zero, List.set_cons_succ]
          refine wpAnyH_take (i := 19) (oi := ⟨some 34, .fieldAddr 55 (.tmp 4) 0, _, _, _, _⟩) (v := undef) rfl (by kernel_rfl) (by kernel_rfl) (by kernel_rfl) (fun _ _ _ h => h) (Or.inr ⟨by rfl, rfl⟩) (by assumption) ?_
          simp only [Act.put, List.setIfInBounds_toArray, List.set_cons_zero, List.set_cons_succ]
          refine wpAnyH_take (i := 20) (oi := ⟨some 35, .load 9 (.tmp 34), _, _, _, _⟩) (v := undef) rfl (by kernel_rfl) (by kernel_rfl) (by kernel_rfl) (fun _ _ _ h => h) (Or.inr ⟨by rfl, rfl⟩) (by assumption) ?_
          simp only [Act.put, List.setIfInBounds_toArray, List.set_cons_zero, List.set_cons_succ]
          refine wpAnyH_take (i := 21) (oi := ⟨some 36, .binOp .geq 9 (.tmp 33) (.tmp 35) 9, _, _, _, _⟩) (v := undef) rfl (by kernel_rfl) (by kernel_rfl) (by kernel_rfl) (fun _ _ _ h => h) (Or.inr ⟨by rfl, rfl⟩) (by assumption) ?_
          simp only [Act.put, List.setIfInBounds_toArray, List.set_cons_zero, List.set_cons_succ]
          refine wpAnyH_take (i := 22) (oi := ⟨some 37, .pick (.tmp 27) (.tmp 36) (.const (.bool false)), _, _, _, _⟩) (v := undef) rfl (by kernel_rfl) (by kernel_rfl) (by kernel_rfl) (fun _ _ _ h => h) (Or.inr ⟨by rfl, rfl⟩) (by assumption) ?_
          simp only [Act.put, List.setIfInBounds_toArray, List.set_cons_zero, List.set_cons_succ]
          refine wpAnyH_take (i := 23) (oi := ⟨some 38, .pick (.tmp 24) (.const (.bool true)) (.tmp 37), _, _, _, _⟩) (v := (.bool true)) rfl (by kernel_rfl) (by kernel_rfl) (by kernel_rfl) (fun _ _ _ h => h) (Or.inl ⟨by rfl, fun W hW => by go_simp⟩) (by assumption) ?_
          simp only [Act.put, List.setIfInBounds_toArray, List.set_cons_zero, List.set_cons_succ]
          refine wpAnyH_done (by kernel_rfl) ?_ _
          have HZ := Lib.hid (Below.trans HBW.out (HX2.out.mono HBW.out.size))
          have HQ := Lib.hid (HF.out (fun h => by have := (h.2.1 X HXM.out).2; exact this (of_decide_eq_true HZI.out)))
          go_wp2_with fail
          go_ret
          exact ⟨boolR HQ.out.symm, HZ.out⟩
    · have hin : n = i := by omega
      have HZ : Hid (q = true) := Lib.hid (HQ.out.2 (NOk.all (by rw [HLN.out, hin]; exact HOK.out) (by have := HLN.out; have := HNI.out; omega)))
      clear hg
      go_wp2
      go_ret
      exact ⟨boolR HZ.out.symm, HB.out⟩
#print axioms names_any
end Go.Proofs.YtjjnbigfdonjlaaDoor
