/-
  The walks of Remove's closure and of Remove.
-/
import Derived.Test.YtcnhifkpflaibaaDoorDiskSync
namespace Go.Proofs.YtcnhifkpflaibaaDoor
open Go.RowKit Go.Maps

def lenO (fs : List FileD) : Option Nat → Nat
  | none => 0
  | some k => (fs.getD k ([], 0)).1.length
theorem used_gone {l : Dir} (hs : SortedD l) (fs : List FileD) (s : Nm) : usedOf fs (without l s) + lenO fs (look l s) = usedOf fs l := by
  have := usedOf_without hs fs s
  unfold lenO
  exact this
theorem used_del {S : DS} (h : Inv S) (s : Nm) (k : Nat) : usedS (doneS S ⟨s, [], k⟩) + lenO S.files (look S.now s) = usedS S := by
  show usedOf S.files (turnD S.now ⟨s, [], k⟩) + _ = usedOf S.files S.now
  unfold turnD
  rw [if_pos rfl]
  exact used_gone h.now.sorted _ _
theorem used_move {S : DS} (h : Inv S) {s t : Nm} {k : Nat} (hk : look S.now s = some k) (ht : t ≠ []) : usedS (doneS S ⟨s, t, k⟩) + (if s = t then 0 else lenO S.files (look S.now t)) = usedS S := by
  show usedOf S.files (turnD S.now ⟨s, t, k⟩) + _ = usedOf S.files S.now
  unfold turnD
  rw [if_neg (show (DAct.mk s t k).dst ≠ [] from ht), usedOf_ins]
  have h1 := used_gone h.now.sorted S.files s
  have h2 := used_gone (sorted_without h.now.sorted s) S.files t
  rw [look_without] at h2
  rw [hk] at h1
  have e1 : lenO S.files (some k) = (S.files.getD k ([], 0)).1.length := rfl
  simp only at *
  by_cases e : s = t
  · subst e
    rw [if_pos rfl] at h2 ⊢
    have e2 : lenO S.files none = 0 := rfl
    omega
  · rw [if_neg e]
    rw [if_neg (fun e2 => e e2.symm)] at h2
    omega
section
variable {F : Nat → Prop} {w W w' : World} {db : Nat} {S : DS} {M : Mem}
theorem used_fin (h : DiskIn F w db S M) (n : Nat) (hw : SameW (w.setCell ⟨db, 4, none⟩ (.int .i64 (n : Int))) w') : Chg F w w' ∧ DiskIn F w' db S { M with used := n } := by
  have kX : ∀ r, r ≠ db → w'.heap[r]? = w.heap[r]? := fun r h1 => by rw [hw.heap, Below.heap_setCell _ _ _ _ h1]
  have sz : w'.heap.size = w.heap.size := by rw [hw.heap]; simp [World.setCell]
  refine ⟨(Chg.refl.setCell (.inl h.inF.1) _).sameW hw, (h.row.set 4 (.int .i64 (n : Int))).same (by rw [hw.heap]), h.files.same (fun _ h => h) (fun k _ hb => kX k (h.db_file hb)), h.acts.same (fun _ h => h) (fun r hr => kX r (fun e => h.av_db (e ▸ hr))) (fun k _ hb => kX k (h.db_box hb)), h.now.same (kX _ (fun e => h.db_map h.now e.symm)), h.kept.same (kX _ (fun e => h.db_map h.kept e.symm)), h.two, h.arm, h.armI, h.inF, fun k hk => by rw [sz]; exact h.lt k hk⟩
theorem size_disk (h : DiskIn F w db S M) (hi : Inv S) (s : ByteArray) (hs : s.size ≤ 80) : Calls Tryd.prog 66 #[.map (some M.bf), .string s] w fun e w' => e = .returned (.int .i64 (lenO S.files (look S.now s.data.toList) : Nat)) ∧ w = w' := by
  refine size_any M.bf _ M.bl (look S.now) s w h.now hs _ rfl _ (fun e => by rw [e]; rfl) (fun k hk => ?_)
  have hlt := hi.nids _ (look_mem hk)
  obtain ⟨fa, fn, fc, hv, hb⟩ := (h.files.own k hlt).bytes
  have := (h.files.row k hlt).cell 0 rfl
  rw [hv] at this
  rw [hk]
  refine ⟨fa, fc, ?_⟩
  show w.cell? _ = some (.slice fa (S.files.getD k ([], 0)).1.length fc)
  rw [hb.1]
  exact this
end
/-- What an act of the directory leaves, with its own variables in blocks of B. -/
def TurnEnd (F B : Nat → Prop) (w : World) (db : Nat) (S : DS) (a : DAct) (w' : World) : Prop :=
  ∃ F' M', Chg F w w' ∧ (∀ k, F' k → F k ∨ B k ∨ w.heap.size ≤ k) ∧ (∀ k, F k → F' k) ∧ DiskIn F' w' db (doneS S a) M' ∧ M'.used = usedS (doneS S a)

theorem turn_fin {F B : Nat → Prop} {w w1 w' : World} {db : Nat} {S : DS} {M' : Mem} {a : DAct} (k1 : Chg F w w1) (k2 : Chg F w1 w') (d : DiskIn (Plus F w1 w') w' db (doneS S a) M') (hu : M'.used = usedS (doneS S a)) : TurnEnd F B w db S a w' :=
  ⟨_, _, k1.trans k2, fun _ hk => hk.elim .inl (fun h => .inr (.inr (Nat.le_trans k1.size h.1))), fun _ hk => .inl hk, d, hu⟩
set_option maxRecDepth 100000 in
set_option maxHeartbeats 2000000 in
theorem removeC {F : Nat → Prop} {w : World} {db : Nat} {S : DS} {M : Mem} (xb nb : Nat) (s : Nm) (k : Nat) (h : DiskIn F w db S M) (hi : Inv S) (hk : look S.now s = some k) (hu : M.used = usedS S) (hs : S.kept.length + S.acts.length ≤ 1000000)
    (rx : RowAt w xb 26 [Pt db]) (rn : RowAt w nb 9 [.string (strB s)]) :
    Calls Tryd.prog 65 #[Pt xb, Pt nb] w fun e w' => e = .returned (.tuple #[]) ∧ TurnEnd (fun k => F k ∨ k = nb) (fun _ => False) w db S ⟨s, [], k⟩ w' := by
  have hm := hi.now.named _ (look_mem hk)
  have h' : DiskIn (fun k => F k ∨ k = nb) w db S M := h.wide (fun _ h => .inl h) (fun k hk => hk.elim (h.lt k) (fun e => by rw [e]; exact rn.lt))
  have hz : (strB s).size ≤ 80 := by rw [strB_size]; exact may_le hm
  have hd := used_del hi s k
  have SZ := Lib.hid (size_disk (w := w.drew) (h'.sameW ⟨rfl, rfl, rfl, rfl⟩) hi (strB s) hz)
  rw [strB_eq] at SZ
  have UF := Lib.hid (fun w' n hw => used_fin h' (w' := w') n hw)
  obtain ⟨_, c1, _, _, c4, _⟩ := h.facts
  rw [hu] at c4
  have f4 := h.row.free 4
  have cx := rx.cell 0 rfl
  have cn := rn.cell 0 rfl
  have CH := Lib.hid (fun (W : World) (M' : Mem) (hW : DiskIn (fun k => F k ∨ k = nb) W db S M') (hn : RowAt W nb 9 [.string (strB s)]) => change_del ⟨s, [], k⟩ nb hW hi hs (may_ne hm) rfl (may_le hm) (.inr rfl) hn)
  have hb := used_le2 hi hs
  have HX := Lib.hid (ne_of_types rx h.row (by decide))
  have HN := Lib.hid (ne_of_types rn h.row (by decide))
  have RX := Lib.hid rx
  have RN := Lib.hid rn
  have HDD := Lib.hid hd
  obtain ⟨u', hu'⟩ : ∃ u', u' = usedS (doneS S ⟨s, [], k⟩) := ⟨_, rfl⟩
  have HU' := Lib.hid hu'
  rw [← hu'] at hd
  generalize hl : lenO S.files (look S.now s) = len at *
  have q1 : (0 : Int) ≤ (usedS S : Int) := by omega
  have q2 : (usedS S : Int) ≤ 1073741824000000 := by omega
  have q3 : (0 : Int) ≤ (len : Int) := by omega
  have q4 : (len : Int) ≤ (usedS S : Int) := by omega
  have q5 : IntKind.i64.wrap ((usedS S : Int) - (len : Int)) = (u' : Int) := by rw [IntWalk.i64_in _ (by omega)]; omega
  have q6 : (usedS S : Int) - (len : Int) = (u' : Int) := by omega
  have Q6 := Lib.hid q6
  clear hl h hi hk hu hs rx rn hm h' hz hd hb hu' q6
  generalize usedS S = u at *
  generalize M.bf = bf at *
  generalize hq : strB s = sb at *
  clear hq
  go_enter Tryd.func65, Tryd.ntmps65
  go_wp2
  go_still_tail 13, (by kernel_rfl)
  still_call (SZ.out.mono fun e w h => ⟨h.1, h.2.symm⟩)
  repeat still_step
  refine wpStill_nil ?_
  change wpList _ _ _ _ _ w.drew
  have UU := UF.out (w.setCell ⟨db, 4, none⟩ (.int .i64 (u' : Int))).drew u' ⟨rfl, rfl, rfl, rfl⟩
  have CC := Lib.hid (CH.out _ _ UU.2 ((RN.out.other (a := ⟨db, 4, none⟩) HN.out (.int .i64 (u' : Int)))))
  have gx := (RX.out.other (a := ⟨db, 4, none⟩) HX.out (.int .i64 (u' : Int))).cell 0 rfl
  have K1 := Lib.hid UU.1
  clear UU q5
  go_wp2_with (first | (go_at_call 36; (with_reducible refine CC.out.mono ?_); rintro e w9 ⟨rfl, k9, t9, av, d9⟩; have FIN := Lib.hid (turn_fin (B := fun _ => False) K1.out k9 d9 HU'.out); clear k9 t9 d9))
  first
    | exact bodyPost_end (results_none rfl _ _ _) rfl ⟨rfl, FIN.out⟩
    | exact bodyPost_ret (results_none rfl _ _ _) rfl ⟨rfl, FIN.out⟩
#print axioms removeC
end Go.Proofs.YtcnhifkpflaibaaDoor
