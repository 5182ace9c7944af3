/-
  Merged: DiskRemove, DiskRename, DiskTurn.
-/
import Derived.Test.YtemphljkfpkgmaaDiskSync
namespace Go.Proofs.Ytemphljkfpkgmaa
open Go.RowKit Go.Maps

def lenO (fs : List FileD) : Option Nat → Nat
  | none => 0
  | some k => (fs.getD k ([], 0)).1.length
theorem used_gone {l : Dir} (hs : SortedD l) (fs : List FileD) (s : Nm) : usedOf fs (without l s) + lenO fs (look l s) = usedOf fs l := by
  have := usedOf_without hs fs s
  unfold lenO
  exact this
theorem used_del {S : DS} (h : Inv S) (s : Nm) (k : Nat) : usedS (doneS S ⟨s, [], k⟩) + lenO S.files (look S.now s) = usedS S := by
  show usedOf S.files (turnD S.now ⟨s, [], k⟩) + _ = usedOf S.files S.now
  unfold turnD
  rw [if_pos rfl]
  exact used_gone h.now.sorted _ _
theorem used_move {S : DS} (h : Inv S) {s t : Nm} {k : Nat} (hk : look S.now s = some k) (ht : t ≠ []) : usedS (doneS S ⟨s, t, k⟩) + (if s = t then 0 else lenO S.files (look S.now t)) = usedS S := by
  show usedOf S.files (turnD S.now ⟨s, t, k⟩) + _ = usedOf S.files S.now
  unfold turnD
  rw [if_neg (show (DAct.mk s t k).dst ≠ [] from ht), usedOf_ins]
  have h1 := used_gone h.now.sorted S.files s
  have h2 := used_gone (sorted_without h.now.sorted s) S.files t
  rw [look_without] at h2
  rw [hk] at h1
  have e1 : lenO S.files (some k) = (S.files.getD k ([], 0)).1.length := rfl
  simp only at *
  by_cases e : s = t
  · subst e
    rw [if_pos rfl] at h2 ⊢
    have e2 : lenO S.files none = 0 := rfl
    omega
  · rw [if_neg e]
    rw [if_neg (fun e2 => e e2.symm)] at h2
    omega
section
variable {F : Nat → Prop} {w W w' : World} {db : Nat} {S : DS} {M : Mem}
theorem used_fin (h : DiskIn F w db S M) (n : Nat) (hw : SameW (w.setCell ⟨db, 4, none⟩ (.int .i64 (n : Int))) w') : Chg F w w' ∧ DiskIn F w' db S { M with used := n } := by
  have kX : ∀ r, r ≠ db → w'.heap[r]? = w.heap[r]? := fun r h1 => by rw [hw.heap, Below.heap_setCell _ _ _ _ h1]
  have sz : w'.heap.size = w.heap.size := by rw [hw.heap]; simp [World.setCell]
  refine ⟨(Chg.refl.setCell (.inl h.inF.1) _).sameW hw, (h.row.set 4 (.int .i64 (n : Int))).same (by rw [hw.heap]), h.files.same (fun _ h => h) (fun k _ hb => kX k (h.db_file hb)), h.acts.same (fun _ h => h) (fun r hr => kX r (fun e => h.av_db (e ▸ hr))) (fun k _ hb => kX k (h.db_box hb)), h.now.same (kX _ (fun e => h.db_map h.now e.symm)), h.kept.same (kX _ (fun e => h.db_map h.kept e.symm)), h.two, h.arm, h.armI, h.inF, fun k hk => by rw [sz]; exact h.lt k hk⟩
theorem size_disk (h : DiskIn F w db S M) (hi : Inv S) (s : ByteArray) (hs : s.size ≤ 80) : Calls Try.prog 42 #[.map (some M.bf), .string s] w fun e w' => e = .returned (.int .i64 (lenO S.files (look S.now s.data.toList) : Nat)) ∧ w = w' := by
  refine size_any M.bf _ M.bl (look S.now) s w h.now hs _ rfl _ (fun e => by rw [e]; rfl) (fun k hk => ?_)
  have hlt := hi.nids _ (look_mem hk)
  obtain ⟨fa, fn, fc, hv, hb⟩ := (h.files.own k hlt).bytes
  have := (h.files.row k hlt).cell 0 rfl
  rw [hv] at this
  rw [hk]
  refine ⟨fa, fc, ?_⟩
  show w.cell? _ = some (.slice fa (S.files.getD k ([], 0)).1.length fc)
  rw [hb.1]
  exact this
end
/-- What an act of the directory leaves, with its own variables in blocks of B. -/
def TurnEnd (F B : Nat → Prop) (w : World) (db : Nat) (S : DS) (a : DAct) (w' : World) : Prop :=
  ∃ F' M', Chg F w w' ∧ (∀ k, F' k → F k ∨ B k ∨ w.heap.size ≤ k) ∧ (∀ k, F k → F' k) ∧ DiskIn F' w' db (doneS S a) M' ∧ M'.used = usedS (doneS S a)

theorem turn_fin {F B : Nat → Prop} {w w1 w' : World} {db : Nat} {S : DS} {M' : Mem} {a : DAct} (k1 : Chg F w w1) (k2 : Chg F w1 w') (d : DiskIn (Plus F w1 w') w' db (doneS S a) M') (hu : M'.used = usedS (doneS S a)) : TurnEnd F B w db S a w' :=
  ⟨_, _, k1.trans k2, fun _ hk => hk.elim .inl (fun h => .inr (.inr (Nat.le_trans k1.size h.1))), fun _ hk => .inl hk, d, hu⟩
set_option maxRecDepth 100000 in
set_option maxHeartbeats 2000000 in
theorem removeC {F : Nat → Prop} {w : World} {db : Nat} {S : DS} {M : Mem} (xb nb : Nat) (s : Nm) (k : Nat) (h : DiskIn F w db S M) (hi : Inv S) (hk : look S.now s = some k) (hu : M.used = usedS S) (hs : S.kept.length + S.acts.length ≤ 1000000)
    (rx : RowAt w xb 24 [Pt db]) (rn : RowAt w nb 9 [.string (strB s)]) :
    Calls Try.prog 44 #[Pt xb, Pt nb] w fun e w' => e = .returned (.tuple #[]) ∧ TurnEnd (fun k => F k ∨ k = nb) (fun _ => False) w db S ⟨s, [], k⟩ w' := by
  have hm := hi.now.named _ (look_mem hk)
  have h' : DiskIn (fun k => F k ∨ k = nb) w db S M := h.wide (fun _ h => .inl h) (fun k hk => hk.elim (h.lt k) (fun e => by rw [e]; exact rn.lt))
  have hz : (strB s).size ≤ 80 := by rw [strB_size]; exact may_le hm
  have hd := used_del hi s k
  have SZ := Lib.hid (size_disk (w := w.drew) (h'.sameW ⟨rfl, rfl, rfl, rfl⟩) hi (strB s) hz)
  rw [strB_eq] at SZ
  have UF := Lib.hid (fun w' n hw => used_fin h' (w' := w') n hw)
  obtain ⟨_, c1, _, _, c4, _⟩ := h.facts
  rw [hu] at c4
  have f4 := h.row.free 4
  have cx := rx.cell 0 rfl
  have cn := rn.cell 0 rfl
  have CH := Lib.hid (fun (W : World) (M' : Mem) (hW : DiskIn (fun k => F k ∨ k = nb) W db S M') (hn : RowAt W nb 9 [.string (strB s)]) => change_del ⟨s, [], k⟩ nb hW hi hs (may_ne hm) rfl (may_le hm) (.inr rfl) hn)
  have hb := used_le2 hi hs
  have HX := Lib.hid (ne_of_types rx h.row (by decide))
  have HN := Lib.hid (ne_of_types rn h.row (by decide))
  have RX := Lib.hid rx
  have RN := Lib.hid rn
  have HDD := Lib.hid hd
  obtain ⟨u', hu'⟩ : ∃ u', u' = usedS (doneS S ⟨s, [], k⟩) := ⟨_, rfl⟩
  have HU' := Lib.hid hu'
  rw [← hu'] at hd
  generalize hl : lenO S.files (look S.now s) = len at *
  have q1 : (0 : Int) ≤ (usedS S : Int) := by omega
  have q2 : (usedS S : Int) ≤ 1073741824000000 := by omega
  have q3 : (0 : Int) ≤ (len : Int) := by omega
  have q4 : (len : Int) ≤ (usedS S : Int) := by omega
  have q5 : IntKind.i64.wrap ((usedS S : Int) - (len : Int)) = (u' : Int) := by rw [IntWalk.i64_in _ (by omega)]; omega
  have q6 : (usedS S : Int) - (len : Int) = (u' : Int) := by omega
  have Q6 := Lib.hid q6
  clear hl h hi hk hu hs rx rn hm h' hz hd hb hu' q6
  generalize usedS S = u at *
  generalize M.bf = bf at *
  generalize hq : strB s = sb at *
  clear hq
  go_enter Try.func44, Try.ntmps44
  go_wp2
  go_still_tail 13, (by kernel_rfl)
  still_call (SZ.out.mono fun e w h => ⟨h.1, h.2.symm⟩)
  repeat still_step
  refine wpStill_nil ?_
  change wpList _ _ _ _ _ w.drew
  have UU := UF.out (w.setCell ⟨db, 4, none⟩ (.int .i64 (u' : Int))).drew u' ⟨rfl, rfl, rfl, rfl⟩
  have CC := Lib.hid (CH.out _ _ UU.2 ((RN.out.other (a := ⟨db, 4, none⟩) HN.out (.int .i64 (u' : Int)))))
  have gx := (RX.out.other (a := ⟨db, 4, none⟩) HX.out (.int .i64 (u' : Int))).cell 0 rfl
  have K1 := Lib.hid UU.1
  clear UU q5
  go_wp2_with (first | (go_at_call 32; (with_reducible refine CC.out.mono ?_); rintro e w9 ⟨rfl, k9, t9, av, d9⟩; have FIN := Lib.hid (turn_fin (B := fun _ => False) K1.out k9 d9 HU'.out); clear k9 t9 d9))
  first
    | exact bodyPost_end (results_none rfl _ _ _) rfl ⟨rfl, FIN.out⟩
    | exact bodyPost_ret (results_none rfl _ _ _) rfl ⟨rfl, FIN.out⟩
#print axioms removeC
end Go.Proofs.Ytemphljkfpkgmaa

namespace Go.Proofs.Ytemphljkfpkgmaa
open Go.RowKit Go.Maps

theorem str_ne {x y : List UInt8} : ((strB x).toList == (strB y).toList) = (x == y) := by rw [Lib.toList_data, Lib.toList_data, strB_eq, strB_eq]
set_option maxRecDepth 100000 in
set_option maxHeartbeats 2000000 in
theorem renameC {F : Nat → Prop} {w : World} {db : Nat} {S : DS} {M : Mem} (nb tb xb : Nat) (s t : Nm) (k : Nat) (h : DiskIn F w db S M) (hi : Inv S) (hk : look S.now s = some k) (ht : mayN t = true) (hu : M.used = usedS S) (hs : S.kept.length + S.acts.length ≤ 1000000)
    (rx : RowAt w xb 24 [Pt db]) (rn : RowAt w nb 9 [.string (strB s)]) (rt : RowAt w tb 9 [.string (strB t)]) :
    Calls Try.prog 41 #[Pt nb, Pt tb, Pt xb] w fun e w' => e = .returned (.tuple #[]) ∧ TurnEnd (fun k => F k ∨ k = nb ∨ k = tb) (fun _ => False) w db S ⟨s, t, k⟩ w' := by
  have hm := hi.now.named _ (look_mem hk)
  have h' : DiskIn (fun k => F k ∨ k = nb ∨ k = tb) w db S M := h.wide (fun _ h => .inl h) (fun k hk => hk.elim (h.lt k) (fun e => e.elim (fun e => by rw [e]; exact rn.lt) (fun e => by rw [e]; exact rt.lt)))
  have hz : (strB t).size ≤ 80 := by rw [strB_size]; exact may_le ht
  have hd := used_move hi hk (may_ne ht)
  have SZ := Lib.hid (size_disk (w := w.drew) (h'.sameW ⟨rfl, rfl, rfl, rfl⟩) hi (strB t) hz)
  rw [strB_eq] at SZ
  have UF := Lib.hid (fun w' n hw => used_fin h' (w' := w') n hw)
  obtain ⟨_, c1, _, _, c4, _⟩ := h.facts
  rw [hu] at c4
  have f4 := h.row.free 4
  have cx := rx.cell 0 rfl
  have cn := rn.cell 0 rfl
  have ct := rt.cell 0 rfl
  have CH := Lib.hid (fun (W : World) (M' : Mem) (hW : DiskIn (fun k => F k ∨ k = nb ∨ k = tb) W db S M') (hn : RowAt W nb 9 [.string (strB s)]) (hn2 : RowAt W tb 9 [.string (strB t)]) => change_move ⟨s, t, k⟩ nb tb hW hi ⟨.inr ht, .inr ⟨may_ne hm, hk⟩⟩ hs (may_ne hm) (may_ne ht) (may_le hm) (may_le ht) (.inr (.inl rfl)) (.inr (.inr rfl)) hn hn2)
  have CH0 := Lib.hid (CH.out w M h' rn rt)
  have hb := used_le2 hi hs
  have HX := Lib.hid (ne_of_types rx h.row (by decide))
  have HN := Lib.hid (ne_of_types rn h.row (by decide))
  have HT := Lib.hid (ne_of_types rt h.row (by decide))
  have RX := Lib.hid rx
  have RN := Lib.hid rn
  have RT := Lib.hid rt
  have HM := Lib.hid hu
  obtain ⟨u', hu'⟩ : ∃ u', u' = usedS (doneS S ⟨s, t, k⟩) := ⟨_, rfl⟩
  have HU' := Lib.hid hu'
  rw [← hu'] at hd
  generalize hl : lenO S.files (look S.now t) = len at *
  have heq : ((strB s).toList == (strB t).toList) = (s == t) := str_ne
  by_cases e : s = t
  · rw [if_pos e] at hd
    have hbq : ((strB s).toList == (strB t).toList) = true := by rw [heq]; simpa using e
    have hbn : ((strB s).toList != (strB t).toList) = false := by simp [bne, hbq]
    have HUU := Lib.hid (show M.used = usedS (doneS S ⟨s, t, k⟩) by rw [hu, ← hu']; omega)
    clear hl h hi hk hu hs rx rn rt hm h' hz hd hb hu' heq ht e c1 c4 f4
    generalize hq : strB s = sb at *
    generalize hr : strB t = tbs at *
    clear hq hr
    go_enter Try.func41, Try.ntmps41
    go_wp2_with (first | (go_at_call 32; (with_reducible refine CH0.out.mono ?_); rintro e w9 ⟨rfl, k9, t9, av, d9⟩; have FIN := Lib.hid (turn_fin (B := fun _ => False) Chg.refl k9 d9 HUU.out); clear k9 t9 d9))
    first
      | exact bodyPost_end (results_none rfl _ _ _) rfl ⟨rfl, FIN.out⟩
      | exact bodyPost_ret (results_none rfl _ _ _) rfl ⟨rfl, FIN.out⟩
  · rw [if_neg e] at hd
    have hbq : ((strB s).toList == (strB t).toList) = false := by rw [heq]; simpa using e
    have hbn : ((strB s).toList != (strB t).toList) = true := by simp [bne, hbq]
    have q1 : (0 : Int) ≤ (usedS S : Int) := by omega
    have q2 : (usedS S : Int) ≤ 1073741824000000 := by omega
    have q3 : (0 : Int) ≤ (len : Int) := by omega
    have q4 : (len : Int) ≤ (usedS S : Int) := by omega
    have q5 : IntKind.i64.wrap ((usedS S : Int) - (len : Int)) = (u' : Int) := by rw [IntWalk.i64_in _ (by omega)]; omega
    have q6 : (usedS S : Int) - (len : Int) = (u' : Int) := by omega
    have Q6 := Lib.hid q6
    clear hl h hi hk hu hs rx rn rt hm h' hz hd hb hu' q6 heq ht e
    generalize usedS S = u at *
    generalize M.bf = bf at *
    generalize hq : strB s = sb at *
    generalize hr : strB t = tbs at *
    clear hq hr
    go_enter Try.func41, Try.ntmps41
    go_wp2
    go_still_tail 13, (by kernel_rfl)
    still_call (SZ.out.mono fun e w h => ⟨h.1, h.2.symm⟩)
    repeat still_step
    refine wpStill_nil ?_
    change wpList _ _ _ _ _ w.drew
    have UU := UF.out (w.setCell ⟨db, 4, none⟩ (.int .i64 (u' : Int))).drew u' ⟨rfl, rfl, rfl, rfl⟩
    have CC := Lib.hid (CH.out _ _ UU.2 ((RN.out.other (a := ⟨db, 4, none⟩) HN.out (.int .i64 (u' : Int)))) ((RT.out.other (a := ⟨db, 4, none⟩) HT.out (.int .i64 (u' : Int)))))
    have gx := (RX.out.other (a := ⟨db, 4, none⟩) HX.out (.int .i64 (u' : Int))).cell 0 rfl
    have K1 := Lib.hid UU.1
    clear UU q5
    go_wp2_with (first | (go_at_call 32; (with_reducible refine CC.out.mono ?_); rintro e w9 ⟨rfl, k9, t9, av, d9⟩; have FIN := Lib.hid (turn_fin (B := fun _ => False) K1.out k9 d9 HU'.out); clear k9 t9 d9))
    first
      | exact bodyPost_end (results_none rfl _ _ _) rfl ⟨rfl, FIN.out⟩
      | exact bodyPost_ret (results_none rfl _ _ _) rfl ⟨rfl, FIN.out⟩
#print axioms renameC
end Go.Proofs.Ytemphljkfpkgmaa

namespace Go.Proofs.Ytemphljkfpkgmaa
open Go.RowKit Go.Maps

theorem turn_ok {S : DS} {s o t : Nm} {k : Nat} (h0 : S.down = false) (hm : mayN s = true) (ho : mayN o = true) (hk : look S.now s = some k) : turnS S s o t = if armF S then (armS S, 9) else (doneS (armS S) ⟨s, t, k⟩, 0) := by
  unfold turnS readyS
  rw [h0, hm, ho, hk]
  rfl
theorem turn_err {S : DS} {s o t : Nm} {L : List Nm} {z : Nat} (hL : L.getD 0 default = s) (hm : L.all mayN = (mayN s && mayN o)) (hz : findE S L = z) (h0 : z ≠ 0) : turnS S s o t = (S, z) := by
  unfold findE at hz
  unfold turnS readyS
  rw [hL, hm] at hz
  cases hd : S.down <;> rw [hd] at hz
  · cases hb : mayN s && mayN o <;> rw [hb] at hz
    · simp at hz; subst hz; rfl
    · simp only [Bool.false_eq_true, if_false, if_true] at hz
      cases hk : look S.now s with
      | none => rw [hk] at hz; simp at hz; subst hz; rfl
      | some k => rw [hk] at hz; simp at hz; omega
  · simp at hz; subst hz; rfl
theorem find_yesL {S : DS} {L : List Nm} (h : findE S L = 0) : S.down = false ∧ L.all mayN = true ∧ ∃ k, look S.now (L.getD 0 default) = some k ∧ findO S L = some k := by
  unfold findE findO at *
  cases hd : S.down <;> rw [hd] at h
  · cases hm : L.all mayN <;> rw [hm] at h
    · simp at h
    · simp only [Bool.false_eq_true, if_false, if_true] at h ⊢
      cases hk : look S.now (L.getD 0 default) with
      | none => rw [hk] at h; simp at h
      | some k => exact ⟨trivial, trivial, k, rfl, rfl⟩
  · simp at h
theorem turn_end {F B : Nat → Prop} {w W w1 w' : World} {db : Nat} {S : DS} {a : DAct} (hi : Inv S) (hd : a.dst = [] ∨ mayN a.dst = true) (hs : a.src ≠ []) (hk : look S.now a.src = some a.file) (hc : Chg (fun _ => False) w W) (g1 : Chg F W w1) (hB : ∀ k, B k → w.heap.size ≤ k) (h : TurnEnd (fun k => F k ∨ B k) (fun _ => False) w1 db (armS S) a w') :
    ∃ F', Step F w w' F' ∧ DiskAt F' w' db (doneS (armS S) a) := by
  obtain ⟨F', M', k1, k2, k3, k4, k5⟩ := h
  have h1 : Chg F w w1 := hc.never.trans g1
  refine ⟨F', ⟨?_, fun k hk => ?_, fun k hk => k3 k (.inl hk)⟩, inv_done (inv_arm hi) hd hs hk, M', k4, k5⟩
  · refine ⟨k1.os.trans h1.os, k1.tape.trans h1.tape, k1.output.trans h1.output, Nat.le_trans h1.size k1.size, fun j hj hX => ?_⟩
    rw [k1.block j (Nat.lt_of_lt_of_le hj h1.size) (fun e => ?_)]
    · exact h1.block j hj hX
    · rcases e with e | e
      · exact hX e
      · have := hB j e; omega
  · rcases k2 k hk with (e | e) | e | e
    · exact .inl e
    · exact .inr (hB k e)
    · exact e.elim
    · exact .inr (Nat.le_trans h1.size e)

theorem remove_act {F : Nat → Prop} {w W : World} {db : Nat} {S : DS} {M : Mem} {xb nb : Nat} (s : Nm) (k : Nat) (hi : Inv S) (hM : DiskIn F w db S M) (hu : M.used = usedS S) (hc : Chg (fun _ => False) w W) (hk : look S.now s = some k) (hd : S.down = false) (hm : mayN s = true) (hsz : S.kept.length + S.acts.length ≤ 1000000)
    (gn : w.heap.size ≤ nb) (rx : RowAt W xb 24 [Pt db]) (rn : RowAt W nb 9 [.string (strB s)]) :
    Calls Try.prog 30 #[Pt db, .func (.func 44) #[] #[Pt xb, Pt nb]] W (DiskEnd F w db (turnS S s s [])) := by
  have hW := hM.later hc
  rw [turn_ok hd hm hm hk]
  by_cases ha : S.arm = 1
  · have e1 : armF S = true := by simp [armF, ha]
    rw [e1]
    refine (act_down _ hW hd ha).mono fun e w' ⟨h1, h2, h3⟩ => ⟨h1, F, ⟨?_, fun _ h => .inl h, fun _ h => h⟩, inv_arm hi, M, h3, hu⟩
    exact hc.never.trans (h2.mono (fun _ _ h => h))
  · have e1 : armF S = false := by simp [armF, ha]
    rw [e1]
    obtain ⟨g1, g2⟩ := go_fin hW hd ha
    have hne : ∀ x t v, RowAt W x t [v] → t ≠ 50 → RowAt (W.setCell ⟨db, 6, none⟩ (.int .i64 ((S.arm - 1 : Nat) : Int))) x t [v] := fun x t v hr ht => hr.other (a := ⟨db, 6, none⟩) (ne_of_types hr hW.row ht) _
    refine (act_remove xb nb hW hd ha (Q := fun w' => TurnEnd (fun k => F k ∨ k = nb) (fun _ => False) (W.setCell ⟨db, 6, none⟩ (.int .i64 ((S.arm - 1 : Nat) : Int))) db (armS S) ⟨s, [], k⟩ w') ?_).mono fun e w' ⟨h1, h2⟩ => ⟨h1, turn_end (B := fun k => k = nb) hi (.inl rfl) (may_ne hm) hk hc g1 (fun k hk => by rw [hk]; exact gn) h2⟩
    exact removeC xb nb s k g2 (inv_arm hi) hk hu hsz (hne _ _ _ rx (by decide)) (hne _ _ _ rn (by decide))

theorem rename_act {F : Nat → Prop} {w W : World} {db : Nat} {S : DS} {M : Mem} {xb nb tb : Nat} (s t : Nm) (k : Nat) (hi : Inv S) (hM : DiskIn F w db S M) (hu : M.used = usedS S) (hc : Chg (fun _ => False) w W) (hk : look S.now s = some k) (hd : S.down = false) (hm : mayN s = true) (ht : mayN t = true) (hsz : S.kept.length + S.acts.length ≤ 1000000)
    (gn : w.heap.size ≤ nb) (gt : w.heap.size ≤ tb) (rx : RowAt W xb 24 [Pt db]) (rn : RowAt W nb 9 [.string (strB s)]) (rt : RowAt W tb 9 [.string (strB t)]) :
    Calls Try.prog 30 #[Pt db, .func (.func 41) #[] #[Pt nb, Pt tb, Pt xb]] W (DiskEnd F w db (turnS S s t t)) := by
  have hW := hM.later hc
  rw [turn_ok hd hm ht hk]
  by_cases ha : S.arm = 1
  · have e1 : armF S = true := by simp [armF, ha]
    rw [e1]
    refine (act_down _ hW hd ha).mono fun e w' ⟨h1, h2, h3⟩ => ⟨h1, F, ⟨?_, fun _ h => .inl h, fun _ h => h⟩, inv_arm hi, M, h3, hu⟩
    exact hc.never.trans (h2.mono (fun _ _ h => h))
  · have e1 : armF S = false := by simp [armF, ha]
    rw [e1]
    obtain ⟨g1, g2⟩ := go_fin hW hd ha
    have hne : ∀ x t v, RowAt W x t [v] → t ≠ 50 → RowAt (W.setCell ⟨db, 6, none⟩ (.int .i64 ((S.arm - 1 : Nat) : Int))) x t [v] := fun x t v hr ht => hr.other (a := ⟨db, 6, none⟩) (ne_of_types hr hW.row ht) _
    refine (act_rename nb tb xb hW hd ha (Q := fun w' => TurnEnd (fun k => F k ∨ (k = nb ∨ k = tb)) (fun _ => False) (W.setCell ⟨db, 6, none⟩ (.int .i64 ((S.arm - 1 : Nat) : Int))) db (armS S) ⟨s, t, k⟩ w') ?_).mono fun e w' ⟨h1, h2⟩ => ⟨h1, turn_end (B := fun k => (k = nb ∨ k = tb)) hi (.inr ht) (may_ne hm) hk hc g1 (fun k hk => hk.elim (fun e => by rw [e]; exact gn) (fun e => by rw [e]; exact gt)) h2⟩
    exact renameC nb tb xb s t k g2 (inv_arm hi) hk ht hu hsz (hne _ _ _ rx (by decide)) (hne _ _ _ rn (by decide)) (hne _ _ _ rt (by decide))
theorem str_row {w : World} {x : Nat} {s : ByteArray} (h : RowAt w x 9 [.string s]) : RowAt w x 9 [.string (strB s.data.toList)] := by rw [strB_of]; exact h

theorem remove_facts {w : World} {db : Nat} {s : ByteArray} (q : Nat) : Chg (fun _ => False) w (((((w.alloc (.cells #[Pt db] 24)).alloc (.cells #[.string s] 9)).alloc (.cells #[.string s] 9)).drewN q)) ∧ RowAt ((((w.alloc (.cells #[Pt db] 24)).alloc (.cells #[.string s] 9)).alloc (.cells #[.string s] 9)).drewN q) w.heap.size 24 [Pt db] ∧ RowAt ((((w.alloc (.cells #[Pt db] 24)).alloc (.cells #[.string s] 9)).alloc (.cells #[.string s] 9)).drewN q) (w.heap.size + 1) 9 [.string s] := by
  have s1 : ∀ (w : World) (o : Obj), (w.alloc o).heap.size = w.heap.size + 1 := fun w o => by simp
  have e0 := row_new1 w (Pt db) 24
  have e1 := row_new1 (w.alloc (.cells #[Pt db] 24)) (.string s) 9
  rw [s1] at e1
  exact ⟨((((Chg.refl.alloc _).alloc _).alloc _).drewN q), row_dn q (row_up (row_up e0 _) _), row_dn q (row_up e1 _)⟩

set_option maxRecDepth 100000 in
set_option maxHeartbeats 2000000 in
theorem remove_any {F : Nat → Prop} {w : World} {db : Nat} {S : DS} (s : ByteArray) (h : DiskAt F w db S) (hsz : S.kept.length + S.acts.length ≤ 1000000) :
    Calls Try.prog 22 #[Pt db, .string s] w (DiskEnd F w db (turnS S s.data.toList s.data.toList [])) := by
  have H := Lib.hid h
  obtain ⟨hi, M, hM, hu⟩ := h
  have W5 := Lib.hid (fun q => remove_facts (w := w) (db := db) (s := s) q)
  have P := Lib.hid (find_disk (hM.later (((Chg.refl.alloc (.cells #[Pt db] 24)).alloc (.cells #[.string s] 9)).alloc (.cells #[.string s] 9))) _ 1 1 _ (one_str _ s) (by omega) (by omega))
  simp only [World.size_alloc] at P
  by_cases hz : findE S [s.data.toList] = 0
  · obtain ⟨hd, hm0, k, hk, ho⟩ := find_yesL hz
    have hm : mayN s.data.toList = true := by simp at hm0; exact hm0
    have _ := hm
    have hk : look S.now s.data.toList = some k := hk
    rw [ho, hz] at P
    simp only [ptrOf] at P
    have GO := Lib.hid (fun (W : World) hc rx rn => remove_act (W := W) (xb := w.heap.size) (nb := w.heap.size + 1) s.data.toList k hi hM hu hc hk hd hm hsz (by omega) rx rn)
    generalize M.bl.getD k 0 = x at *
    clear hz hd hm hm0 ho hi hM hu hsz hk M 
    go_enter Try.func22, Try.ntmps22
    go_wp2_with (first
      | (go_at_call 29; (with_reducible refine P.out.mono ?_); rintro e w5 ⟨rfl, q, rfl⟩; have GA := Lib.hid (GO.out _ (W5.out q).1 (W5.out q).2.1 (str_row (W5.out q).2.2)))
      | (go_at_call 30; (with_reducible refine GA.out.mono ?_); intro e w9 he; have HE := Lib.hid he; obtain ⟨rfl, hx⟩ := he; clear hx))
    go_ret
    exact HE.out
  · have E := Lib.hid (turn_err (S := S) (s := s.data.toList) (o := s.data.toList) (t := []) (L := [s.data.toList]) rfl (by simp) rfl hz)
    have k0 : (((findE S [s.data.toList] : Nat) : Int) != 0) = true := by simp; omega
    obtain ⟨p, hp⟩ := ptrOf_pt M.bl (findO S [s.data.toList])
    rw [hp] at P
    generalize findE S [s.data.toList] = z at P k0 E
    clear hi hM hu hz hp M hsz
    go_enter Try.func22, Try.ntmps22
    go_wp2_with (first | (go_at_call 29; (with_reducible refine P.out.mono ?_); rintro e w5 ⟨rfl, q, rfl⟩))
    go_ret
    refine ⟨by rw [E.out]; rfl, F, Step.of_below ?_, ?_⟩
    · exact (W5.out q).1.below (fun k hk => hk.elim) (Nat.le_refl _)
    · rw [E.out]
      exact H.out.later (W5.out q).1

theorem rename_facts {w : World} {db : Nat} {s t : ByteArray} (q : Nat) : Chg (fun _ => False) w ((((((w.alloc (.cells #[Pt db] 24)).alloc (.cells #[.string s] 9)).alloc (.cells #[.string t] 9)).alloc (.cells #[.string s, .string t] 9)).drewN q)) ∧ RowAt (((((w.alloc (.cells #[Pt db] 24)).alloc (.cells #[.string s] 9)).alloc (.cells #[.string t] 9)).alloc (.cells #[.string s, .string t] 9)).drewN q) w.heap.size 24 [Pt db] ∧ RowAt (((((w.alloc (.cells #[Pt db] 24)).alloc (.cells #[.string s] 9)).alloc (.cells #[.string t] 9)).alloc (.cells #[.string s, .string t] 9)).drewN q) (w.heap.size + 1) 9 [.string s] ∧ RowAt (((((w.alloc (.cells #[Pt db] 24)).alloc (.cells #[.string s] 9)).alloc (.cells #[.string t] 9)).alloc (.cells #[.string s, .string t] 9)).drewN q) (w.heap.size + 1 + 1) 9 [.string t] := by
  have s1 : ∀ (w : World) (o : Obj), (w.alloc o).heap.size = w.heap.size + 1 := fun w o => by simp
  have e0 := row_new1 w (Pt db) 24
  have e1 := row_new1 (w.alloc (.cells #[Pt db] 24)) (.string s) 9
  rw [s1] at e1
  have e2 := row_new1 ((w.alloc (.cells #[Pt db] 24)).alloc (.cells #[.string s] 9)) (.string t) 9
  rw [s1, s1] at e2
  exact ⟨(((((Chg.refl.alloc _).alloc _).alloc _).alloc _).drewN q), row_dn q (row_up (row_up (row_up e0 _) _) _), row_dn q (row_up (row_up e1 _) _), row_dn q (row_up e2 _)⟩

set_option maxRecDepth 100000 in
set_option maxHeartbeats 2000000 in
theorem rename_any {F : Nat → Prop} {w : World} {db : Nat} {S : DS} (s t : ByteArray) (h : DiskAt F w db S) (hsz : S.kept.length + S.acts.length ≤ 1000000) :
    Calls Try.prog 20 #[Pt db, .string s, .string t] w (DiskEnd F w db (turnS S s.data.toList t.data.toList t.data.toList)) := by
  have H := Lib.hid h
  obtain ⟨hi, M, hM, hu⟩ := h
  have W5 := Lib.hid (fun q => rename_facts (w := w) (db := db) (s := s) (t := t) q)
  have P := Lib.hid (find_disk (hM.later ((((Chg.refl.alloc (.cells #[Pt db] 24)).alloc (.cells #[.string s] 9)).alloc (.cells #[.string t] 9)).alloc (.cells #[.string s, .string t] 9))) _ 2 2 _ (two_str _ s t) (by omega) (by omega))
  simp only [World.size_alloc] at P
  by_cases hz : findE S [s.data.toList, t.data.toList] = 0
  · obtain ⟨hd, hm0, k, hk, ho⟩ := find_yesL hz
    have hm : mayN s.data.toList = true := by simp at hm0; exact hm0.1
    have htt : mayN t.data.toList = true := by simp at hm0; exact hm0.2
    have hk : look S.now s.data.toList = some k := hk
    rw [ho, hz] at P
    simp only [ptrOf] at P
    have GO := Lib.hid (fun (W : World) hc rx rn rt => rename_act (W := W) (xb := w.heap.size) (nb := w.heap.size + 1) (tb := w.heap.size + 1 + 1) s.data.toList t.data.toList k hi hM hu hc hk hd hm htt hsz (by omega) (by omega) rx rn rt)
    generalize M.bl.getD k 0 = x at *
    clear hz hd hm hm0 ho hi hM hu hsz hk M htt
    go_enter Try.func20, Try.ntmps20
    go_wp2_with (first
      | (go_at_call 29; (with_reducible refine P.out.mono ?_); rintro e w5 ⟨rfl, q, rfl⟩; have GA := Lib.hid (GO.out _ (W5.out q).1 (W5.out q).2.1 (str_row (W5.out q).2.2.1) (str_row (W5.out q).2.2.2)))
      | (go_at_call 30; (with_reducible refine GA.out.mono ?_); intro e w9 he; have HE := Lib.hid he; obtain ⟨rfl, hx⟩ := he; clear hx))
    go_ret
    exact HE.out
  · have E := Lib.hid (turn_err (S := S) (s := s.data.toList) (o := t.data.toList) (t := t.data.toList) (L := [s.data.toList, t.data.toList]) rfl (by simp) rfl hz)
    have k0 : (((findE S [s.data.toList, t.data.toList] : Nat) : Int) != 0) = true := by simp; omega
    obtain ⟨p, hp⟩ := ptrOf_pt M.bl (findO S [s.data.toList, t.data.toList])
    rw [hp] at P
    generalize findE S [s.data.toList, t.data.toList] = z at P k0 E
    clear hi hM hu hz hp M hsz
    go_enter Try.func20, Try.ntmps20
    go_wp2_with (first | (go_at_call 29; (with_reducible refine P.out.mono ?_); rintro e w5 ⟨rfl, q, rfl⟩))
    go_ret
    refine ⟨by rw [E.out]; rfl, F, Step.of_below ?_, ?_⟩
    · exact (W5.out q).1.below (fun k hk => hk.elim) (Nat.le_refl _)
    · rw [E.out]
      exact H.out.later (W5.out q).1
#print axioms remove_any
#print axioms rename_any
end Go.Proofs.Ytemphljkfpkgmaa
