/-
  The walk of Append.
-/
import Derived.Test.YtcnhifkpflaibaaDoorDiskFind3
import Derived.Test.YtcnhifkpflaibaaDoorDiskApp4
namespace Go.Proofs.YtcnhifkpflaibaaDoor
open Go.RowKit Go.Maps

abbrev w4a (w : World) (db : Nat) (s : ByteArray) (a : Option Addr) (n c : Nat) : World :=
  (((w.alloc (.cells #[Pt db] 26)).alloc (.cells #[.string s] 9)).alloc (.cells #[.slice a n c] 23)).alloc (.cells #[.string s] 9)
theorem w4a_chg (w : World) (db : Nat) (s : ByteArray) (a : Option Addr) (n c : Nat) : Chg (fun _ => False) w (w4a w db s a n c) := (((Chg.refl.alloc _).alloc _).alloc _).alloc _
theorem append_err {S : DS} {s : Nm} {b : List UInt8} {z : Nat} (hz : findE S [s] = z) (h0 : z ≠ 0) (h4 : z ≠ 4) : appendS S s b = (S, z) := by
  unfold findE at hz
  unfold appendS
  rw [ready_eq]
  simp only [List.all_cons, List.all_nil, Bool.and_true] at hz
  cases hd : S.down <;> rw [hd] at hz
  · cases hm : mayN s <;> rw [hm] at hz
    · simp at hz; subst hz; rfl
    · simp only [Bool.false_eq_true, if_false, if_true] at hz
      split at hz <;> omega
  · simp at hz; subst hz; rfl

set_option maxRecDepth 100000 in
set_option maxHeartbeats 1000000 in
theorem append_no {F : Nat → Prop} {w : World} {db : Nat} {S : DS} (s : ByteArray) (a : Option Addr) (n c : Nat) (b : List UInt8) (h : DiskAt F w db S) (z : Nat) (hz : findE S [s.data.toList] = z) (h0 : z ≠ 0) (h4 : z ≠ 4) :
    Calls Tryd.prog 16 #[Pt db, .string s, .slice a n c] w (DiskEnd F w db (appendS S s.data.toList b)) := by
  have E := Lib.hid (append_err (b := b) hz h0 h4)
  have H := Lib.hid h
  obtain ⟨hi, M, hM, hu⟩ := h
  have P := Lib.hid (find_disk (hM.later (w4a_chg w db s a n c)) _ 1 1 _ (one_str _ s) (by omega) (by omega))
  rw [hz] at P
  simp only [World.size_alloc] at P
  obtain ⟨p, hp⟩ := ptrOf_pt M.bl (findO S [s.data.toList])
  rw [hp] at P
  have k0 : ((z : Int) != 0) = true := by simp; omega
  have k4 : ((z : Int) != 4) = true := by simp; omega
  have HC := Lib.hid (w4a_chg w db s a n c)
  clear hi hM hu hz h0 h4 hp M
  go_enter Tryd.func16, Tryd.ntmps16
  go_wp2_with (first | (go_at_call 33; (with_reducible refine P.out.mono ?_); rintro e w5 ⟨rfl, q, rfl⟩))
  go_ret
  refine ⟨by rw [E.out]; rfl, F, Step.of_below ?_, ?_⟩
  · exact ((HC.out.drewN q).alloc _).below (fun k hk => hk.elim) (Nat.le_refl _)
  · rw [E.out]
    exact H.out.later ((HC.out.drewN q).alloc _)

section
variable {F : Nat → Prop} {w W : World} {db : Nat} {S : DS} {M : Mem}
theorem append_ok {s : Nm} (b : List UInt8) (h0 : S.down = false) (hm : mayN s = true) (hq : usedS S + b.length ≤ S.quota) : appendS S s b = if armF S then (armS S, 9) else (putS (armS S) s b, 0) := by
  unfold appendS
  rw [ready_eq, h0, hm]
  simp only [Bool.false_eq_true, if_false, if_true, ne_eq, not_true_eq_false]
  rw [if_neg (by omega)]
theorem append_full {s : Nm} (b : List UInt8) (h0 : S.down = false) (hm : mayN s = true) (hq : S.quota < usedS S + b.length) : appendS S s b = ({ S with refused := S.refused + 1 }, 8) := by
  unfold appendS
  rw [ready_eq, h0, hm]
  simp only [Bool.false_eq_true, if_false, if_true, ne_eq, not_true_eq_false]
  rw [if_pos hq]
theorem refused_fin (h : DiskAt F w db S) (hc : Chg (fun _ => False) w W) : DiskEnd F w db ({ S with refused := S.refused + 1 }, 8) (.returned (.int .i64 8)) (W.setCell ⟨db, 5, none⟩ (.int .i64 ((S.refused : Int) + 1))) := by
  obtain ⟨hi, M, hM, hu⟩ := h
  have hW := hM.later hc
  have kX : ∀ k, k ≠ db → (W.setCell ⟨db, 5, none⟩ (.int .i64 ((S.refused : Int) + 1))).heap[k]? = W.heap[k]? := fun k h2 => Below.heap_setCell _ _ _ _ h2
  have sz : (W.setCell ⟨db, 5, none⟩ (.int .i64 ((S.refused : Int) + 1))).heap.size = W.heap.size := by simp [World.setCell]
  refine ⟨rfl, F, ⟨(hc.never.setCell (.inl hM.inF.1) _), fun _ h => .inl h, fun _ h => h⟩, inv_refused hi, M, ⟨?_, hW.files.same (fun _ h => h) (fun k _ hb => kX k (hW.db_file hb)), hW.acts.same (fun _ h => h) (fun r hr => kX r (fun e => hW.av_db (e ▸ hr))) (fun k _ hb => kX k (hW.db_box hb)), hW.now.same (kX _ (fun e => hW.db_map hW.now e.symm)), hW.kept.same (kX _ (fun e => hW.db_map hW.kept e.symm)), hW.two, hW.arm, hW.armI, hW.inF, fun k hk => by rw [sz]; exact hW.lt k hk⟩, hu⟩
  have := hW.row.set 5 (.int .i64 ((S.refused : Int) + 1))
  have e : ((S.refused : Int) + 1) = ((S.refused + 1 : Nat) : Int) := by omega
  rw [e] at this ⊢
  exact this
/-- What is done to bytes, once all is asked. -/
theorem append_act {fb xb nb bb : Nat} (s : Nm) (b : List UInt8) (a : Option Addr) (n c : Nat) (hi : Inv S) (hM : DiskIn F w db S M) (hu : M.used = usedS S) (hc : Chg (fun _ => False) w W) (hf : w.heap.size ≤ fb) (hn : w.heap.size ≤ nb) (p : Value) (hp : p = ptrOf M.bl (look S.now s)) (hd : S.down = false) (hm : mayN s = true) (hq : usedS S + b.length ≤ S.quota) (hsz : S.kept.length + S.acts.length ≤ 1000000)
    (rf : RowAt W fb 60 [p]) (rx : RowAt W xb 26 [Pt db]) (rn : RowAt W nb 9 [.string (strB s)]) (rb : RowAt W bb 23 [.slice a n c]) (hBF : ∀ W, Chg (fun k => F k ∨ w.heap.size ≤ k) w W → Bytes W a n c b) :
    Calls Tryd.prog 34 #[Pt db, .func (.func 35) #[] #[Pt fb, Pt xb, Pt nb, Pt bb]] W (DiskEnd F w db (appendS S s b)) := by
  have hW := hM.later hc
  rw [append_ok b hd hm hq]
  by_cases ha : S.arm = 1
  · have e1 : armF S = true := by simp [armF, ha]
    rw [e1]
    refine (act_down _ hW hd ha).mono fun e w' ⟨h1, h2, h3⟩ => ⟨h1, F, ⟨?_, fun _ h => .inl h, fun _ h => h⟩, inv_arm hi, M, h3, hu⟩
    exact hc.never.trans (h2.mono (fun _ _ h => h))
  · have e1 : armF S = false := by simp [armF, ha]
    rw [e1]
    obtain ⟨g1, g2⟩ := go_fin hW hd ha
    have hne : ∀ x t v, RowAt W x t [v] → t ≠ 55 → RowAt (W.setCell ⟨db, 6, none⟩ (.int .i64 ((S.arm - 1 : Nat) : Int))) x t [v] := fun x t v hr ht => hr.other (a := ⟨db, 6, none⟩) (ne_of_types hr hW.row ht) _
    have hBW : ∀ W', Chg (fun k => F k ∨ k = fb ∨ k = nb) (W.setCell ⟨db, 6, none⟩ (.int .i64 ((S.arm - 1 : Nat) : Int))) W' → Bytes W' a n c b := fun W' hc' => by
      have h1 : Chg (fun k => F k ∨ w.heap.size ≤ k) w (W.setCell ⟨db, 6, none⟩ (.int .i64 ((S.arm - 1 : Nat) : Int))) := chg_two hc.never g1 (fun _ _ e => .inl e)
      exact hBF W' (chg_two h1 hc' (fun k _ e => e.elim .inl (fun e => e.elim (fun e => .inr (by omega)) (fun e => .inr (by omega)))))
    have fin : ∀ w', AppEnd F (W.setCell ⟨db, 6, none⟩ (.int .i64 ((S.arm - 1 : Nat) : Int))) fb nb db (armS S) s b w' → ∃ F', Step F w w' F' ∧ DiskAt F' w' db (putS (armS S) s b) := by
      rintro w' ⟨F', M', k1, k2, k3, k4, k5⟩
      refine ⟨F', ⟨?_, fun k hk => ?_, k3⟩, inv_put (inv_arm hi) hm hq, M', k4, k5⟩
      · have h1 : Chg F w (W.setCell ⟨db, 6, none⟩ (.int .i64 ((S.arm - 1 : Nat) : Int))) := hc.never.trans g1
        refine ⟨k1.os.trans h1.os, k1.tape.trans h1.tape, k1.output.trans h1.output, Nat.le_trans h1.size k1.size, fun j hj hX => ?_⟩
        rw [k1.block j (Nat.lt_of_lt_of_le hj h1.size) (fun e => ?_)]
        · exact h1.block j hj hX
        · rcases e with e | e | e
          · exact hX e
          · omega
          · omega
      · have h2 := hc.size
        have h3 := g1.size
        rcases k2 k hk with e | e | e | e
        · exact .inl e
        · exact .inr (by omega)
        · exact .inr (by omega)
        · exact .inr (by omega)
    cases hk : look S.now s with
    | some k =>
      rw [hk] at hp
      subst hp
      refine (act_append fb xb nb bb hW hd ha (Q := fun w' => AppEnd F (W.setCell ⟨db, 6, none⟩ (.int .i64 ((S.arm - 1 : Nat) : Int))) fb nb db (armS S) s b w') ?_).mono fun e w' ⟨h1, h2⟩ => ⟨h1, fin w' h2⟩
      exact appC_some fb xb nb bb s b a n c g2 (inv_arm hi) k hk hu hq (hne _ _ _ rf (by decide)) (hne _ _ _ rx (by decide)) (hne _ _ _ rb (by decide)) (fun W' hc' => hBW W' (hc'.mono fun _ _ h => .inl h))
    | none =>
      rw [hk] at hp
      subst hp
      refine (act_append fb xb nb bb hW hd ha (Q := fun w' => AppEnd F (W.setCell ⟨db, 6, none⟩ (.int .i64 ((S.arm - 1 : Nat) : Int))) fb nb db (armS S) s b w') ?_).mono fun e w' ⟨h1, h2⟩ => ⟨h1, fin w' h2⟩
      exact appC_none fb xb nb bb s b a n c g2 (inv_arm hi) hk hm hu hq hsz (hne _ _ _ rf (by decide)) (hne _ _ _ rx (by decide)) (hne _ _ _ rn (by decide)) (hne _ _ _ rb (by decide)) (fun e => by have := hM.lt fb e; omega) hBW
end
#print axioms append_act
end Go.Proofs.YtcnhifkpflaibaaDoor
