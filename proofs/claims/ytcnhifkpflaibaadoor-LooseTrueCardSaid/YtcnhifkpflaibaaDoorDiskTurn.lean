/-
  The walks of Remove and of Rename.
-/
import Derived.Test.YtcnhifkpflaibaaDoorDiskRename
namespace Go.Proofs.YtcnhifkpflaibaaDoor
open Go.RowKit Go.Maps

theorem turn_ok {S : DS} {s o t : Nm} {k : Nat} (h0 : S.down = false) (hm : mayN s = true) (ho : mayN o = true) (hk : look S.now s = some k) : turnS S s o t = if armF S then (armS S, 9) else (doneS (armS S) ⟨s, t, k⟩, 0) := by
  unfold turnS readyS
  rw [h0, hm, ho, hk]
  rfl
theorem turn_err {S : DS} {s o t : Nm} {L : List Nm} {z : Nat} (hL : L.getD 0 default = s) (hm : L.all mayN = (mayN s && mayN o)) (hz : findE S L = z) (h0 : z ≠ 0) : turnS S s o t = (S, z) := by
  unfold findE at hz
  unfold turnS readyS
  rw [hL, hm] at hz
  cases hd : S.down <;> rw [hd] at hz
  · cases hb : mayN s && mayN o <;> rw [hb] at hz
    · simp at hz; subst hz; rfl
    · simp only [Bool.false_eq_true, if_false, if_true] at hz
      cases hk : look S.now s with
      | none => rw [hk] at hz; simp at hz; subst hz; rfl
      | some k => rw [hk] at hz; simp at hz; omega
  · simp at hz; subst hz; rfl
theorem find_yesL {S : DS} {L : List Nm} (h : findE S L = 0) : S.down = false ∧ L.all mayN = true ∧ ∃ k, look S.now (L.getD 0 default) = some k ∧ findO S L = some k := by
  unfold findE findO at *
  cases hd : S.down <;> rw [hd] at h
  · cases hm : L.all mayN <;> rw [hm] at h
    · simp at h
    · simp only [Bool.false_eq_true, if_false, if_true] at h ⊢
      cases hk : look S.now (L.getD 0 default) with
      | none => rw [hk] at h; simp at h
      | some k => exact ⟨trivial, trivial, k, rfl, rfl⟩
  · simp at h
theorem turn_end {F B : Nat → Prop} {w W w1 w' : World} {db : Nat} {S : DS} {a : DAct} (hi : Inv S) (hd : a.dst = [] ∨ mayN a.dst = true) (hs : a.src ≠ []) (hk : look S.now a.src = some a.file) (hc : Chg (fun _ => False) w W) (g1 : Chg F W w1) (hB : ∀ k, B k → w.heap.size ≤ k) (h : TurnEnd (fun k => F k ∨ B k) (fun _ => False) w1 db (armS S) a w') :
    ∃ F', Step F w w' F' ∧ DiskAt F' w' db (doneS (armS S) a) := by
  obtain ⟨F', M', k1, k2, k3, k4, k5⟩ := h
  have h1 : Chg F w w1 := hc.never.trans g1
  refine ⟨F', ⟨?_, fun k hk => ?_, fun k hk => k3 k (.inl hk)⟩, inv_done (inv_arm hi) hd hs hk, M', k4, k5⟩
  · refine ⟨k1.os.trans h1.os, k1.tape.trans h1.tape, k1.output.trans h1.output, Nat.le_trans h1.size k1.size, fun j hj hX => ?_⟩
    rw [k1.block j (Nat.lt_of_lt_of_le hj h1.size) (fun e => ?_)]
    · exact h1.block j hj hX
    · rcases e with e | e
      · exact hX e
      · have := hB j e; omega
  · rcases k2 k hk with (e | e) | e | e
    · exact .inl e
    · exact .inr (hB k e)
    · exact e.elim
    · exact .inr (Nat.le_trans h1.size e)

theorem remove_act {F : Nat → Prop} {w W : World} {db : Nat} {S : DS} {M : Mem} {xb nb : Nat} (s : Nm) (k : Nat) (hi : Inv S) (hM : DiskIn F w db S M) (hu : M.used = usedS S) (hc : Chg (fun _ => False) w W) (hk : look S.now s = some k) (hd : S.down = false) (hm : mayN s = true) (hsz : S.kept.length + S.acts.length ≤ 1000000)
    (gn : w.heap.size ≤ nb) (rx : RowAt W xb 26 [Pt db]) (rn : RowAt W nb 9 [.string (strB s)]) :
    Calls Tryd.prog 34 #[Pt db, .func (.func 65) #[] #[Pt xb, Pt nb]] W (DiskEnd F w db (turnS S s s [])) := by
  have hW := hM.later hc
  rw [turn_ok hd hm hm hk]
  by_cases ha : S.arm = 1
  · have e1 : armF S = true := by simp [armF, ha]
    rw [e1]
    refine (act_down _ hW hd ha).mono fun e w' ⟨h1, h2, h3⟩ => ⟨h1, F, ⟨?_, fun _ h => .inl h, fun _ h => h⟩, inv_arm hi, M, h3, hu⟩
    exact hc.never.trans (h2.mono (fun _ _ h => h))
  · have e1 : armF S = false := by simp [armF, ha]
    rw [e1]
    obtain ⟨g1, g2⟩ := go_fin hW hd ha
    have hne : ∀ x t v, RowAt W x t [v] → t ≠ 55 → RowAt (W.setCell ⟨db, 6, none⟩ (.int .i64 ((S.arm - 1 : Nat) : Int))) x t [v] := fun x t v hr ht => hr.other (a := ⟨db, 6, none⟩) (ne_of_types hr hW.row ht) _
    refine (act_remove xb nb hW hd ha (Q := fun w' => TurnEnd (fun k => F k ∨ k = nb) (fun _ => False) (W.setCell ⟨db, 6, none⟩ (.int .i64 ((S.arm - 1 : Nat) : Int))) db (armS S) ⟨s, [], k⟩ w') ?_).mono fun e w' ⟨h1, h2⟩ => ⟨h1, turn_end (B := fun k => k = nb) hi (.inl rfl) (may_ne hm) hk hc g1 (fun k hk => by rw [hk]; exact gn) h2⟩
    exact removeC xb nb s k g2 (inv_arm hi) hk hu hsz (hne _ _ _ rx (by decide)) (hne _ _ _ rn (by decide))

theorem str_row {w : World} {x : Nat} {s : ByteArray} (h : RowAt w x 9 [.string s]) : RowAt w x 9 [.string (strB s.data.toList)] := by rw [strB_of]; exact h

theorem remove_facts {w : World} {db : Nat} {s : ByteArray} (q : Nat) : Chg (fun _ => False) w (((((w.alloc (.cells #[Pt db] 26)).alloc (.cells #[.string s] 9)).alloc (.cells #[.string s] 9)).drewN q)) ∧ RowAt ((((w.alloc (.cells #[Pt db] 26)).alloc (.cells #[.string s] 9)).alloc (.cells #[.string s] 9)).drewN q) w.heap.size 26 [Pt db] ∧ RowAt ((((w.alloc (.cells #[Pt db] 26)).alloc (.cells #[.string s] 9)).alloc (.cells #[.string s] 9)).drewN q) (w.heap.size + 1) 9 [.string s] := by
  have s1 : ∀ (w : World) (o : Obj), (w.alloc o).heap.size = w.heap.size + 1 := fun w o => by simp
  have e0 := row_new1 w (Pt db) 26
  have e1 := row_new1 (w.alloc (.cells #[Pt db] 26)) (.string s) 9
  rw [s1] at e1
  exact ⟨((((Chg.refl.alloc _).alloc _).alloc _).drewN q), row_dn q (row_up (row_up e0 _) _), row_dn q (row_up e1 _)⟩

set_option maxRecDepth 100000 in
set_option maxHeartbeats 2000000 in
theorem remove_any {F : Nat → Prop} {w : World} {db : Nat} {S : DS} (s : ByteArray) (h : DiskAt F w db S) (hsz : S.kept.length + S.acts.length ≤ 1000000) :
    Calls Tryd.prog 43 #[Pt db, .string s] w (DiskEnd F w db (turnS S s.data.toList s.data.toList [])) := by
  have H := Lib.hid h
  obtain ⟨hi, M, hM, hu⟩ := h
  have W5 := Lib.hid (fun q => remove_facts (w := w) (db := db) (s := s) q)
  have P := Lib.hid (find_disk (hM.later (((Chg.refl.alloc (.cells #[Pt db] 26)).alloc (.cells #[.string s] 9)).alloc (.cells #[.string s] 9))) _ 1 1 _ (one_str _ s) (by omega) (by omega))
  simp only [World.size_alloc] at P
  by_cases hz : findE S [s.data.toList] = 0
  · obtain ⟨hd, hm0, k, hk, ho⟩ := find_yesL hz
    have hm : mayN s.data.toList = true := by simp at hm0; exact hm0
    have _ := hm
    have hk : look S.now s.data.toList = some k := hk
    rw [ho, hz] at P
    simp only [ptrOf] at P
    have GO := Lib.hid (fun (W : World) hc rx rn => remove_act (W := W) (xb := w.heap.size) (nb := w.heap.size + 1) s.data.toList k hi hM hu hc hk hd hm hsz (by omega) rx rn)
    generalize M.bl.getD k 0 = x at *
    clear hz hd hm hm0 ho hi hM hu hsz hk M 
    go_enter Tryd.func43, Tryd.ntmps43
    go_wp2_with (first
      | (go_at_call 33; (with_reducible refine P.out.mono ?_); rintro e w5 ⟨rfl, q, rfl⟩; have GA := Lib.hid (GO.out _ (W5.out q).1 (W5.out q).2.1 (str_row (W5.out q).2.2)))
      | (go_at_call 34; (with_reducible refine GA.out.mono ?_); intro e w9 he; have HE := Lib.hid he; obtain ⟨rfl, hx⟩ := he; clear hx))
    go_ret
    exact HE.out
  · have E := Lib.hid (turn_err (S := S) (s := s.data.toList) (o := s.data.toList) (t := []) (L := [s.data.toList]) rfl (by simp) rfl hz)
    have k0 : (((findE S [s.data.toList] : Nat) : Int) != 0) = true := by simp; omega
    obtain ⟨p, hp⟩ := ptrOf_pt M.bl (findO S [s.data.toList])
    rw [hp] at P
    generalize findE S [s.data.toList] = z at P k0 E
    clear hi hM hu hz hp M hsz
    go_enter Tryd.func43, Tryd.ntmps43
    go_wp2_with (first | (go_at_call 33; (with_reducible refine P.out.mono ?_); rintro e w5 ⟨rfl, q, rfl⟩))
    go_ret
    refine ⟨by rw [E.out]; rfl, F, Step.of_below ?_, ?_⟩
    · exact (W5.out q).1.below (fun k hk => hk.elim) (Nat.le_refl _)
    · rw [E.out]
      exact H.out.later (W5.out q).1

theorem rename_facts {w : World} {db : Nat} {s t : ByteArray} (q : Nat) : Chg (fun _ => False) w ((((((w.alloc (.cells #[Pt db] 26)).alloc (.cells #[.string s] 9)).alloc (.cells #[.string t] 9)).alloc (.cells #[.string s, .string t] 9)).drewN q)) ∧ RowAt (((((w.alloc (.cells #[Pt db] 26)).alloc (.cells #[.string s] 9)).alloc (.cells #[.string t] 9)).alloc (.cells #[.string s, .string t] 9)).drewN q) w.heap.size 26 [Pt db] ∧ RowAt (((((w.alloc (.cells #[Pt db] 26)).alloc (.cells #[.string s] 9)).alloc (.cells #[.string t] 9)).alloc (.cells #[.string s, .string t] 9)).drewN q) (w.heap.size + 1) 9 [.string s] ∧ RowAt (((((w.alloc (.cells #[Pt db] 26)).alloc (.cells #[.string s] 9)).alloc (.cells #[.string t] 9)).alloc (.cells #[.string s, .string t] 9)).drewN q) (w.heap.size + 1 + 1) 9 [.string t] := by
  have s1 : ∀ (w : World) (o : Obj), (w.alloc o).heap.size = w.heap.size + 1 := fun w o => by simp
  have e0 := row_new1 w (Pt db) 26
  have e1 := row_new1 (w.alloc (.cells #[Pt db] 26)) (.string s) 9
  rw [s1] at e1
  have e2 := row_new1 ((w.alloc (.cells #[Pt db] 26)).alloc (.cells #[.string s] 9)) (.string t) 9
  rw [s1, s1] at e2
  exact ⟨(((((Chg.refl.alloc _).alloc _).alloc _).alloc _).drewN q), row_dn q (row_up (row_up (row_up e0 _) _) _), row_dn q (row_up (row_up e1 _) _), row_dn q (row_up e2 _)⟩

#print axioms remove_any
end Go.Proofs.YtcnhifkpflaibaaDoor
