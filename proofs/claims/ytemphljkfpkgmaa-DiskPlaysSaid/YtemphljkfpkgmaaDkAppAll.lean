/-
  Merged: DiskAppend, DiskAppend2.
-/
import Derived.Test.YtemphljkfpkgmaaDiskFind3
import Derived.Test.YtemphljkfpkgmaaDiskApp4
import Derived.IntWalk
namespace Go.Proofs.Ytemphljkfpkgmaa
open Go.RowKit Go.Maps

abbrev w4a (w : World) (db : Nat) (s : ByteArray) (a : Option Addr) (n c : Nat) : World :=
  (((w.alloc (.cells #[Pt db] 24)).alloc (.cells #[.string s] 9)).alloc (.cells #[.slice a n c] 35)).alloc (.cells #[.string s] 9)
theorem w4a_chg (w : World) (db : Nat) (s : ByteArray) (a : Option Addr) (n c : Nat) : Chg (fun _ => False) w (w4a w db s a n c) := (((Chg.refl.alloc _).alloc _).alloc _).alloc _
theorem append_err {S : DS} {s : Nm} {b : List UInt8} {z : Nat} (hz : findE S [s] = z) (h0 : z ≠ 0) (h4 : z ≠ 4) : appendS S s b = (S, z) := by
  unfold findE at hz
  unfold appendS
  rw [ready_eq]
  simp only [List.all_cons, List.all_nil, Bool.and_true] at hz
  cases hd : S.down <;> rw [hd] at hz
  · cases hm : mayN s <;> rw [hm] at hz
    · simp at hz; subst hz; rfl
    · simp only [Bool.false_eq_true, if_false, if_true] at hz
      split at hz <;> omega
  · simp at hz; subst hz; rfl

set_option maxRecDepth 100000 in
set_option maxHeartbeats 1000000 in
theorem append_no {F : Nat → Prop} {w : World} {db : Nat} {S : DS} (s : ByteArray) (a : Option Addr) (n c : Nat) (b : List UInt8) (h : DiskAt F w db S) (z : Nat) (hz : findE S [s.data.toList] = z) (h0 : z ≠ 0) (h4 : z ≠ 4) :
    Calls Try.prog 16 #[Pt db, .string s, .slice a n c] w (DiskEnd F w db (appendS S s.data.toList b)) := by
  have E := Lib.hid (append_err (b := b) hz h0 h4)
  have H := Lib.hid h
  obtain ⟨hi, M, hM, hu⟩ := h
  have P := Lib.hid (find_disk (hM.later (w4a_chg w db s a n c)) _ 1 1 _ (one_str _ s) (by omega) (by omega))
  rw [hz] at P
  simp only [World.size_alloc] at P
  obtain ⟨p, hp⟩ := ptrOf_pt M.bl (findO S [s.data.toList])
  rw [hp] at P
  have k0 : ((z : Int) != 0) = true := by simp; omega
  have k4 : ((z : Int) != 4) = true := by simp; omega
  have HC := Lib.hid (w4a_chg w db s a n c)
  clear hi hM hu hz h0 h4 hp M
  go_enter Try.func16, Try.ntmps16
  go_wp2_with (first | (go_at_call 29; (with_reducible refine P.out.mono ?_); rintro e w5 ⟨rfl, q, rfl⟩))
  go_ret
  refine ⟨by rw [E.out]; rfl, F, Step.of_below ?_, ?_⟩
  · exact ((HC.out.drewN q).alloc _).below (fun k hk => hk.elim) (Nat.le_refl _)
  · rw [E.out]
    exact H.out.later ((HC.out.drewN q).alloc _)

section
variable {F : Nat → Prop} {w W : World} {db : Nat} {S : DS} {M : Mem}
theorem append_ok {s : Nm} (b : List UInt8) (h0 : S.down = false) (hm : mayN s = true) (hq : usedS S + b.length ≤ S.quota) : appendS S s b = if armF S then (armS S, 9) else (putS (armS S) s b, 0) := by
  unfold appendS
  rw [ready_eq, h0, hm]
  simp only [Bool.false_eq_true, if_false, if_true, ne_eq, not_true_eq_false]
  rw [if_neg (by omega)]
theorem append_full {s : Nm} (b : List UInt8) (h0 : S.down = false) (hm : mayN s = true) (hq : S.quota < usedS S + b.length) : appendS S s b = ({ S with refused := S.refused + 1 }, 8) := by
  unfold appendS
  rw [ready_eq, h0, hm]
  simp only [Bool.false_eq_true, if_false, if_true, ne_eq, not_true_eq_false]
  rw [if_pos hq]
theorem refused_fin (h : DiskAt F w db S) (hc : Chg (fun _ => False) w W) : DiskEnd F w db ({ S with refused := S.refused + 1 }, 8) (.returned (.int .i64 8)) (W.setCell ⟨db, 5, none⟩ (.int .i64 ((S.refused : Int) + 1))) := by
  obtain ⟨hi, M, hM, hu⟩ := h
  have hW := hM.later hc
  have kX : ∀ k, k ≠ db → (W.setCell ⟨db, 5, none⟩ (.int .i64 ((S.refused : Int) + 1))).heap[k]? = W.heap[k]? := fun k h2 => Below.heap_setCell _ _ _ _ h2
  have sz : (W.setCell ⟨db, 5, none⟩ (.int .i64 ((S.refused : Int) + 1))).heap.size = W.heap.size := by simp [World.setCell]
  refine ⟨rfl, F, ⟨(hc.never.setCell (.inl hM.inF.1) _), fun _ h => .inl h, fun _ h => h⟩, inv_refused hi, M, ⟨?_, hW.files.same (fun _ h => h) (fun k _ hb => kX k (hW.db_file hb)), hW.acts.same (fun _ h => h) (fun r hr => kX r (fun e => hW.av_db (e ▸ hr))) (fun k _ hb => kX k (hW.db_box hb)), hW.now.same (kX _ (fun e => hW.db_map hW.now e.symm)), hW.kept.same (kX _ (fun e => hW.db_map hW.kept e.symm)), hW.two, hW.arm, hW.armI, hW.inF, fun k hk => by rw [sz]; exact hW.lt k hk⟩, hu⟩
  have := hW.row.set 5 (.int .i64 ((S.refused : Int) + 1))
  have e : ((S.refused : Int) + 1) = ((S.refused + 1 : Nat) : Int) := by omega
  rw [e] at this ⊢
  exact this
/-- What is done to bytes, once all is asked. -/
theorem append_act {fb xb nb bb : Nat} (s : Nm) (b : List UInt8) (a : Option Addr) (n c : Nat) (hi : Inv S) (hM : DiskIn F w db S M) (hu : M.used = usedS S) (hc : Chg (fun _ => False) w W) (hf : w.heap.size ≤ fb) (hn : w.heap.size ≤ nb) (p : Value) (hp : p = ptrOf M.bl (look S.now s)) (hd : S.down = false) (hm : mayN s = true) (hq : usedS S + b.length ≤ S.quota) (hsz : S.kept.length + S.acts.length ≤ 1000000)
    (rf : RowAt W fb 68 [p]) (rx : RowAt W xb 24 [Pt db]) (rn : RowAt W nb 9 [.string (strB s)]) (rb : RowAt W bb 35 [.slice a n c]) (hBF : ∀ W, Chg (fun k => F k ∨ w.heap.size ≤ k) w W → Bytes W a n c b) :
    Calls Try.prog 30 #[Pt db, .func (.func 31) #[] #[Pt fb, Pt xb, Pt nb, Pt bb]] W (DiskEnd F w db (appendS S s b)) := by
  have hW := hM.later hc
  rw [append_ok b hd hm hq]
  by_cases ha : S.arm = 1
  · have e1 : armF S = true := by simp [armF, ha]
    rw [e1]
    refine (act_down _ hW hd ha).mono fun e w' ⟨h1, h2, h3⟩ => ⟨h1, F, ⟨?_, fun _ h => .inl h, fun _ h => h⟩, inv_arm hi, M, h3, hu⟩
    exact hc.never.trans (h2.mono (fun _ _ h => h))
  · have e1 : armF S = false := by simp [armF, ha]
    rw [e1]
    obtain ⟨g1, g2⟩ := go_fin hW hd ha
    have hne : ∀ x t v, RowAt W x t [v] → t ≠ 50 → RowAt (W.setCell ⟨db, 6, none⟩ (.int .i64 ((S.arm - 1 : Nat) : Int))) x t [v] := fun x t v hr ht => hr.other (a := ⟨db, 6, none⟩) (ne_of_types hr hW.row ht) _
    have hBW : ∀ W', Chg (fun k => F k ∨ k = fb ∨ k = nb) (W.setCell ⟨db, 6, none⟩ (.int .i64 ((S.arm - 1 : Nat) : Int))) W' → Bytes W' a n c b := fun W' hc' => by
      have h1 : Chg (fun k => F k ∨ w.heap.size ≤ k) w (W.setCell ⟨db, 6, none⟩ (.int .i64 ((S.arm - 1 : Nat) : Int))) := chg_two hc.never g1 (fun _ _ e => .inl e)
      exact hBF W' (chg_two h1 hc' (fun k _ e => e.elim .inl (fun e => e.elim (fun e => .inr (by omega)) (fun e => .inr (by omega)))))
    have fin : ∀ w', AppEnd F (W.setCell ⟨db, 6, none⟩ (.int .i64 ((S.arm - 1 : Nat) : Int))) fb nb db (armS S) s b w' → ∃ F', Step F w w' F' ∧ DiskAt F' w' db (putS (armS S) s b) := by
      rintro w' ⟨F', M', k1, k2, k3, k4, k5⟩
      refine ⟨F', ⟨?_, fun k hk => ?_, k3⟩, inv_put (inv_arm hi) hm hq, M', k4, k5⟩
      · have h1 : Chg F w (W.setCell ⟨db, 6, none⟩ (.int .i64 ((S.arm - 1 : Nat) : Int))) := hc.never.trans g1
        refine ⟨k1.os.trans h1.os, k1.tape.trans h1.tape, k1.output.trans h1.output, Nat.le_trans h1.size k1.size, fun j hj hX => ?_⟩
        rw [k1.block j (Nat.lt_of_lt_of_le hj h1.size) (fun e => ?_)]
        · exact h1.block j hj hX
        · rcases e with e | e | e
          · exact hX e
          · omega
          · omega
      · have h2 := hc.size
        have h3 := g1.size
        rcases k2 k hk with e | e | e | e
        · exact .inl e
        · exact .inr (by omega)
        · exact .inr (by omega)
        · exact .inr (by omega)
    cases hk : look S.now s with
    | some k =>
      rw [hk] at hp
      subst hp
      refine (act_append fb xb nb bb hW hd ha (Q := fun w' => AppEnd F (W.setCell ⟨db, 6, none⟩ (.int .i64 ((S.arm - 1 : Nat) : Int))) fb nb db (armS S) s b w') ?_).mono fun e w' ⟨h1, h2⟩ => ⟨h1, fin w' h2⟩
      exact appC_some fb xb nb bb s b a n c g2 (inv_arm hi) k hk hu hq (hne _ _ _ rf (by decide)) (hne _ _ _ rx (by decide)) (hne _ _ _ rb (by decide)) (fun W' hc' => hBW W' (hc'.mono fun _ _ h => .inl h))
    | none =>
      rw [hk] at hp
      subst hp
      refine (act_append fb xb nb bb hW hd ha (Q := fun w' => AppEnd F (W.setCell ⟨db, 6, none⟩ (.int .i64 ((S.arm - 1 : Nat) : Int))) fb nb db (armS S) s b w') ?_).mono fun e w' ⟨h1, h2⟩ => ⟨h1, fin w' h2⟩
      exact appC_none fb xb nb bb s b a n c g2 (inv_arm hi) hk hm hu hq hsz (hne _ _ _ rf (by decide)) (hne _ _ _ rx (by decide)) (hne _ _ _ rn (by decide)) (hne _ _ _ rb (by decide)) (fun e => by have := hM.lt fb e; omega) hBW
end
#print axioms append_act
end Go.Proofs.Ytemphljkfpkgmaa

namespace Go.Proofs.Ytemphljkfpkgmaa
open Go.RowKit Go.Maps

theorem find_yes {S : DS} {s : Nm} (h : findE S [s] = 0 ∨ findE S [s] = 4) : S.down = false ∧ mayN s = true ∧ findO S [s] = look S.now s ∧ findE S [s] = if (look S.now s).isNone then 4 else 0 := by
  unfold findE findO at *
  simp only [List.all_cons, List.all_nil, Bool.and_true] at *
  cases hd : S.down <;> rw [hd] at h
  · cases hm : mayN s <;> rw [hm] at h
    · simp at h
    · exact ⟨rfl, rfl, rfl, rfl⟩
  · simp at h
theorem row_new1 (w : World) (v : Value) (t : TypeId) : RowAt (w.alloc (.cells #[v] t)) w.heap.size t [v] := heap_alloc_new w _
theorem row_up {w : World} {g : Nat} {t : TypeId} {cs : List Value} (h : RowAt w g t cs) (o : Obj) : RowAt (w.alloc o) g t cs := h.same (Below.heap_alloc _ _ _ h.lt)
theorem row_dn {w : World} {g : Nat} {t : TypeId} {cs : List Value} (q : Nat) (h : RowAt w g t cs) : RowAt (w.drewN q) g t cs := h
theorem used_le2 {S : DS} (h : Inv S) (hs : S.kept.length + S.acts.length ≤ 1000000) : usedS S ≤ 1000000 * 1073741824 :=
  Nat.le_trans (usedOf_le (q := 1073741824) (fun i => Nat.le_trans (file_syn h i).2 h.most) S.now) (Nat.mul_le_mul_right _ (h.nowLe hs))
section
variable {w : World} {db : Nat} {s : ByteArray} {a : Option Addr} {n c : Nat}
theorem w5_facts (q : Nat) (p : Option Addr) : Chg (fun _ => False) w (((w4a w db s a n c).drewN q).alloc (.cells #[.pointer p] 68)) ∧
    RowAt (((w4a w db s a n c).drewN q).alloc (.cells #[.pointer p] 68)) w.heap.size 24 [Pt db] ∧
    RowAt (((w4a w db s a n c).drewN q).alloc (.cells #[.pointer p] 68)) (w.heap.size + 1) 9 [.string s] ∧
    RowAt (((w4a w db s a n c).drewN q).alloc (.cells #[.pointer p] 68)) (w.heap.size + 1 + 1) 35 [.slice a n c] ∧
    RowAt (((w4a w db s a n c).drewN q).alloc (.cells #[.pointer p] 68)) (w.heap.size + 1 + 1 + 1 + 1) 68 [.pointer p] := by
  have s1 : ∀ (w : World) (o : Obj), (w.alloc o).heap.size = w.heap.size + 1 := fun w o => by simp
  have e0 := row_new1 w (Pt db) 24
  have e1 := row_new1 (w.alloc (.cells #[Pt db] 24)) (.string s) 9
  have e2 := row_new1 ((w.alloc (.cells #[Pt db] 24)).alloc (.cells #[.string s] 9)) (.slice a n c) 35
  have e4 := row_new1 ((w4a w db s a n c).drewN q) (.pointer p) 68
  rw [s1] at e1
  rw [s1, s1] at e2
  rw [show ((w4a w db s a n c).drewN q).heap.size = (w4a w db s a n c).heap.size from rfl, s1, s1, s1, s1] at e4
  exact ⟨((w4a_chg w db s a n c).drewN q).alloc _, row_up (row_dn q (row_up (row_up (row_up e0 _) _) _)) _, row_up (row_dn q (row_up (row_up e1 _) _)) _, row_up (row_dn q (row_up e2 _)) _, e4⟩
end

set_option maxRecDepth 100000 in
set_option maxHeartbeats 2000000 in
theorem append_any {F : Nat → Prop} {w : World} {db : Nat} {S : DS} (s : ByteArray) (a : Option Addr) (n c : Nat) (b : List UInt8) (h : DiskAt F w db S) (hsz : S.kept.length + S.acts.length ≤ 1000000) (href : S.refused ≤ 1000000) (hBF : ∀ W, Chg (fun k => F k ∨ w.heap.size ≤ k) w W → Bytes W a n c b) :
    Calls Try.prog 16 #[Pt db, .string s, .slice a n c] w (DiskEnd F w db (appendS S s.data.toList b)) := by
  by_cases hz : findE S [s.data.toList] = 0 ∨ findE S [s.data.toList] = 4
  · obtain ⟨hd, hm, ho, he⟩ := find_yes hz
    have H := Lib.hid h
    obtain ⟨hi, M, hM, hu⟩ := h
    have hlen : b.length = n := (hBF w Chg.refl).1
    have P := Lib.hid (find_disk (hM.later (w4a_chg w db s a n c)) _ 1 1 _ (one_str _ s) (by omega) (by omega))
    rw [ho] at P
    simp only [World.size_alloc] at P
    have k0 : (((findE S [s.data.toList] : Nat) : Int) != 0) = false ∨ ((((findE S [s.data.toList] : Nat) : Int) != 0) = true ∧ (((findE S [s.data.toList] : Nat) : Int) != 4) = false) := by
      rcases hz with e | e <;> rw [e] <;> simp
    generalize findE S [s.data.toList] = z at P k0 hz
    obtain ⟨p, hp⟩ := ptrOf_pt M.bl (look S.now s.data.toList)
    rw [hp] at P
    have W5 := Lib.hid (fun q => w5_facts (w := w) (db := db) (s := s) (a := a) (n := n) (c := c) q p)
    have hu1 : ((usedS S : Nat) : Int) ≤ 1073741824000000 := by have := used_le2 hi hsz; omega
    have hu0 : (0 : Int) ≤ ((usedS S : Nat) : Int) := by omega
    have hq1 : ((S.quota : Nat) : Int) ≤ 1073741824 := by have := hi.most; omega
    have hq0 : (0 : Int) ≤ ((S.quota : Nat) : Int) := by omega
    have hr0 : (0 : Int) ≤ ((S.refused : Nat) : Int) := by omega
    have hr1 : ((S.refused : Nat) : Int) ≤ 1000000 := by omega
    have hwr : IntKind.i64.wrap ((S.quota : Int) - (usedS S : Int)) = (S.quota : Int) - (usedS S : Int) := IntWalk.i64_in _ (by omega)
    have GO := Lib.hid (fun (W : World) hc rf rx rn rb (hq : usedS S + b.length ≤ S.quota) => append_act (W := W) (fb := w.heap.size + 1 + 1 + 1 + 1) (xb := w.heap.size) (nb := w.heap.size + 1) (bb := w.heap.size + 1 + 1) s.data.toList b a n c hi hM hu hc (by omega) (by omega) (.pointer p) hp.symm hd hm hq hsz rf rx rn rb hBF)
    have NO := Lib.hid (fun (W : World) (hc : Chg (fun _ => False) w W) (hq : S.quota < usedS S + b.length) => append_full b hd hm hq ▸ refused_fin H.out hc)
    have DB := Lib.hid (fun (W : World) (hc : Chg (fun _ => False) w W) => (hM.later hc).row)
    have HU := Lib.hid hu
    have HN := Lib.hid hlen
    clear hz hd hm ho he hi hM hu hsz href hBF hp hlen
    by_cases hq : (S.quota : Int) - (usedS S : Int) < (n : Int)
    · have HQ := Lib.hid (show S.quota < usedS S + b.length by rw [HN.out]; omega)
      generalize usedS S = u at *
      rcases k0 with k0 | ⟨k0, k4⟩
      all_goals
        go_enter Try.func16, Try.ntmps16
        go_wp2_with (first | (go_at_call 29; (with_reducible refine P.out.mono ?_); rintro e w5 ⟨rfl, q, rfl⟩))
        obtain ⟨hc5, rx5, rn5, rb5, rf5⟩ := W5.out q
        have rd5 := DB.out _ hc5
        obtain ⟨W, hW⟩ : ∃ W, W = ((w4a w db s a n c).drewN q).alloc (.cells #[.pointer p] 68) := ⟨_, rfl⟩
        rw [← hW] at hc5 rx5 rn5 rb5 rf5 rd5 ⊢
        clear hW
        have g0 := rd5.cell 0 rfl
        have g4 := rd5.cell 4 rfl
        have g5 := rd5.cell 5 rfl
        have f5 := rd5.free 5
        have gx := rx5.cell 0 rfl
        have gb := rb5.cell 0 rfl
        rw [HU.out] at g4
        have HC5 := Lib.hid hc5
        have RX := Lib.hid rx5
        have RN := Lib.hid rn5
        have RB := Lib.hid rb5
        have RF := Lib.hid rf5
        clear hc5 rx5 rn5 rb5 rf5 rd5
        go_quiet (fail)
        go_wp2
        go_ret
        exact NO.out _ (HC5.out.drewN _) HQ.out
    · have HQ := Lib.hid (show usedS S + b.length ≤ S.quota by rw [HN.out]; omega)
      generalize usedS S = u at *
      rcases k0 with k0 | ⟨k0, k4⟩
      all_goals
        go_enter Try.func16, Try.ntmps16
        go_wp2_with (first | (go_at_call 29; (with_reducible refine P.out.mono ?_); rintro e w5 ⟨rfl, q, rfl⟩))
        obtain ⟨hc5, rx5, rn5, rb5, rf5⟩ := W5.out q
        have rd5 := DB.out _ hc5
        obtain ⟨W, hW⟩ : ∃ W, W = ((w4a w db s a n c).drewN q).alloc (.cells #[.pointer p] 68) := ⟨_, rfl⟩
        rw [← hW] at hc5 rx5 rn5 rb5 rf5 rd5 ⊢
        clear hW
        have g0 := rd5.cell 0 rfl
        have g4 := rd5.cell 4 rfl
        have g5 := rd5.cell 5 rfl
        have f5 := rd5.free 5
        have gx := rx5.cell 0 rfl
        have gb := rb5.cell 0 rfl
        rw [HU.out] at g4
        have HC5 := Lib.hid hc5
        have RX := Lib.hid rx5
        have RN := Lib.hid rn5
        have RB := Lib.hid rb5
        have RF := Lib.hid rf5
        clear hc5 rx5 rn5 rb5 rf5 rd5
        go_quiet (fail)
        have GA := Lib.hid (fun k => GO.out (W.drewN k) (HC5.out.drewN k) RF.out RX.out (by rw [strB_of]; exact RN.out) RB.out HQ.out)
        go_wp2_with (first | (go_at_call 30; (with_reducible refine (GA.out _).mono ?_); intro e w9 he; have HE := Lib.hid he; obtain ⟨rfl, hx⟩ := he; clear hx))
        go_ret
        exact HE.out
  · exact append_no s a n c b h _ rfl (fun e => hz (.inl e)) (fun e => hz (.inr e))
#print axioms append_any
end Go.Proofs.Ytemphljkfpkgmaa
