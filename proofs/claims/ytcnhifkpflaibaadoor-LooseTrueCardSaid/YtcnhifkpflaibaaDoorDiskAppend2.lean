/-
  The walk of Append, whatever comes of it.
-/
import Derived.Test.YtcnhifkpflaibaaDoorDiskAppend
import Derived.IntWalk
namespace Go.Proofs.YtcnhifkpflaibaaDoor
open Go.RowKit Go.Maps

theorem find_yes {S : DS} {s : Nm} (h : findE S [s] = 0 ∨ findE S [s] = 4) : S.down = false ∧ mayN s = true ∧ findO S [s] = look S.now s ∧ findE S [s] = if (look S.now s).isNone then 4 else 0 := by
  unfold findE findO at *
  simp only [List.all_cons, List.all_nil, Bool.and_true] at *
  cases hd : S.down <;> rw [hd] at h
  · cases hm : mayN s <;> rw [hm] at h
    · simp at h
    · exact ⟨rfl, rfl, rfl, rfl⟩
  · simp at h
theorem row_new1 (w : World) (v : Value) (t : TypeId) : RowAt (w.alloc (.cells #[v] t)) w.heap.size t [v] := heap_alloc_new w _
theorem row_up {w : World} {g : Nat} {t : TypeId} {cs : List Value} (h : RowAt w g t cs) (o : Obj) : RowAt (w.alloc o) g t cs := h.same (Below.heap_alloc _ _ _ h.lt)
theorem row_dn {w : World} {g : Nat} {t : TypeId} {cs : List Value} (q : Nat) (h : RowAt w g t cs) : RowAt (w.drewN q) g t cs := h
theorem used_le2 {S : DS} (h : Inv S) (hs : S.kept.length + S.acts.length ≤ 1000000) : usedS S ≤ 1000000 * 1073741824 :=
  Nat.le_trans (usedOf_le (q := 1073741824) (fun i => Nat.le_trans (file_syn h i).2 h.most) S.now) (Nat.mul_le_mul_right _ (h.nowLe hs))
section
variable {w : World} {db : Nat} {s : ByteArray} {a : Option Addr} {n c : Nat}
theorem w5_facts (q : Nat) (p : Option Addr) : Chg (fun _ => False) w (((w4a w db s a n c).drewN q).alloc (.cells #[.pointer p] 60)) ∧
    RowAt (((w4a w db s a n c).drewN q).alloc (.cells #[.pointer p] 60)) w.heap.size 26 [Pt db] ∧
    RowAt (((w4a w db s a n c).drewN q).alloc (.cells #[.pointer p] 60)) (w.heap.size + 1) 9 [.string s] ∧
    RowAt (((w4a w db s a n c).drewN q).alloc (.cells #[.pointer p] 60)) (w.heap.size + 1 + 1) 23 [.slice a n c] ∧
    RowAt (((w4a w db s a n c).drewN q).alloc (.cells #[.pointer p] 60)) (w.heap.size + 1 + 1 + 1 + 1) 60 [.pointer p] := by
  have s1 : ∀ (w : World) (o : Obj), (w.alloc o).heap.size = w.heap.size + 1 := fun w o => by simp
  have e0 := row_new1 w (Pt db) 26
  have e1 := row_new1 (w.alloc (.cells #[Pt db] 26)) (.string s) 9
  have e2 := row_new1 ((w.alloc (.cells #[Pt db] 26)).alloc (.cells #[.string s] 9)) (.slice a n c) 23
  have e4 := row_new1 ((w4a w db s a n c).drewN q) (.pointer p) 60
  rw [s1] at e1
  rw [s1, s1] at e2
  rw [show ((w4a w db s a n c).drewN q).heap.size = (w4a w db s a n c).heap.size from rfl, s1, s1, s1, s1] at e4
  exact ⟨((w4a_chg w db s a n c).drewN q).alloc _, row_up (row_dn q (row_up (row_up (row_up e0 _) _) _)) _, row_up (row_dn q (row_up (row_up e1 _) _)) _, row_up (row_dn q (row_up e2 _)) _, e4⟩
end

set_option maxRecDepth 100000 in
set_option maxHeartbeats 2000000 in
theorem append_any {F : Nat → Prop} {w : World} {db : Nat} {S : DS} (s : ByteArray) (a : Option Addr) (n c : Nat) (b : List UInt8) (h : DiskAt F w db S) (hsz : S.kept.length + S.acts.length ≤ 1000000) (href : S.refused ≤ 1000000) (hBF : ∀ W, Chg (fun k => F k ∨ w.heap.size ≤ k) w W → Bytes W a n c b) :
    Calls Tryd.prog 16 #[Pt db, .string s, .slice a n c] w (DiskEnd F w db (appendS S s.data.toList b)) := by
  by_cases hz : findE S [s.data.toList] = 0 ∨ findE S [s.data.toList] = 4
  · obtain ⟨hd, hm, ho, he⟩ := find_yes hz
    have H := Lib.hid h
    obtain ⟨hi, M, hM, hu⟩ := h
    have hlen : b.length = n := (hBF w Chg.refl).1
    have P := Lib.hid (find_disk (hM.later (w4a_chg w db s a n c)) _ 1 1 _ (one_str _ s) (by omega) (by omega))
    rw [ho] at P
    simp only [World.size_alloc] at P
    have k0 : (((findE S [s.data.toList] : Nat) : Int) != 0) = false ∨ ((((findE S [s.data.toList] : Nat) : Int) != 0) = true ∧ (((findE S [s.data.toList] : Nat) : Int) != 4) = false) := by
      rcases hz with e | e <;> rw [e] <;> simp
    generalize findE S [s.data.toList] = z at P k0 hz
    obtain ⟨p, hp⟩ := ptrOf_pt M.bl (look S.now s.data.toList)
    rw [hp] at P
    have W5 := Lib.hid (fun q => w5_facts (w := w) (db := db) (s := s) (a := a) (n := n) (c := c) q p)
    have hu1 : ((usedS S : Nat) : Int) ≤ 1073741824000000 := by have := used_le2 hi hsz; omega
    have hu0 : (0 : Int) ≤ ((usedS S : Nat) : Int) := by omega
    have hq1 : ((S.quota : Nat) : Int) ≤ 1073741824 := by have := hi.most; omega
    have hq0 : (0 : Int) ≤ ((S.quota : Nat) : Int) := by omega
    have hr0 : (0 : Int) ≤ ((S.refused : Nat) : Int) := by omega
    have hr1 : ((S.refused : Nat) : Int) ≤ 1000000 := by omega
    have hwr : IntKind.i64.wrap ((S.quota : Int) - (usedS S : Int)) = (S.quota : Int) - (usedS S : Int) := IntWalk.i64_in _ (by omega)
    have GO := Lib.hid (fun (W : World) hc rf rx rn rb (hq : usedS S + b.length ≤ S.quota) => append_act (W := W) (fb := w.heap.size + 1 + 1 + 1 + 1) (xb := w.heap.size) (nb := w.heap.size + 1) (bb := w.heap.size + 1 + 1) s.data.toList b a n c hi hM hu hc (by omega) (by omega) (.pointer p) hp.symm hd hm hq hsz rf rx rn rb hBF)
    have NO := Lib.hid (fun (W : World) (hc : Chg (fun _ => False) w W) (hq : S.quota < usedS S + b.length) => append_full b hd hm hq ▸ refused_fin H.out hc)
    have DB := Lib.hid (fun (W : World) (hc : Chg (fun _ => False) w W) => (hM.later hc).row)
    have HU := Lib.hid hu
    have HN := Lib.hid hlen
    clear hz hd hm ho he hi hM hu hsz href hBF hp hlen
    by_cases hq : (S.quota : Int) - (usedS S : Int) < (n : Int)
    · have HQ := Lib.hid (show S.quota < usedS S + b.length by rw [HN.out]; omega)
      generalize usedS S = u at *
      rcases k0 with k0 | ⟨k0, k4⟩
      all_goals
        go_enter Tryd.func16, Tryd.ntmps16
        go_wp2_with (first | (go_at_call 33; (with_reducible refine P.out.mono ?_); rintro e w5 ⟨rfl, q, rfl⟩))
        obtain ⟨hc5, rx5, rn5, rb5, rf5⟩ := W5.out q
        have rd5 := DB.out _ hc5
        obtain ⟨W, hW⟩ : ∃ W, W = ((w4a w db s a n c).drewN q).alloc (.cells #[.pointer p] 60) := ⟨_, rfl⟩
        rw [← hW] at hc5 rx5 rn5 rb5 rf5 rd5 ⊢
        clear hW
        have g0 := rd5.cell 0 rfl
        have g4 := rd5.cell 4 rfl
        have g5 := rd5.cell 5 rfl
        have f5 := rd5.free 5
        have gx := rx5.cell 0 rfl
        have gb := rb5.cell 0 rfl
        rw [HU.out] at g4
        have HC5 := Lib.hid hc5
        have RX := Lib.hid rx5
        have RN := Lib.hid rn5
        have RB := Lib.hid rb5
        have RF := Lib.hid rf5
        clear hc5 rx5 rn5 rb5 rf5 rd5
        go_quiet (fail)
        go_wp2
        go_ret
        exact NO.out _ (HC5.out.drewN _) HQ.out
    · have HQ := Lib.hid (show usedS S + b.length ≤ S.quota by rw [HN.out]; omega)
      generalize usedS S = u at *
      rcases k0 with k0 | ⟨k0, k4⟩
      all_goals
        go_enter Tryd.func16, Tryd.ntmps16
        go_wp2_with (first | (go_at_call 33; (with_reducible refine P.out.mono ?_); rintro e w5 ⟨rfl, q, rfl⟩))
        obtain ⟨hc5, rx5, rn5, rb5, rf5⟩ := W5.out q
        have rd5 := DB.out _ hc5
        obtain ⟨W, hW⟩ : ∃ W, W = ((w4a w db s a n c).drewN q).alloc (.cells #[.pointer p] 60) := ⟨_, rfl⟩
        rw [← hW] at hc5 rx5 rn5 rb5 rf5 rd5 ⊢
        clear hW
        have g0 := rd5.cell 0 rfl
        have g4 := rd5.cell 4 rfl
        have g5 := rd5.cell 5 rfl
        have f5 := rd5.free 5
        have gx := rx5.cell 0 rfl
        have gb := rb5.cell 0 rfl
        rw [HU.out] at g4
        have HC5 := Lib.hid hc5
        have RX := Lib.hid rx5
        have RN := Lib.hid rn5
        have RB := Lib.hid rb5
        have RF := Lib.hid rf5
        clear hc5 rx5 rn5 rb5 rf5 rd5
        go_quiet (fail)
        have GA := Lib.hid (fun k => GO.out (W.drewN k) (HC5.out.drewN k) RF.out RX.out (by rw [strB_of]; exact RN.out) RB.out HQ.out)
        go_wp2_with (first | (go_at_call 34; (with_reducible refine (GA.out _).mono ?_); intro e w9 he; have HE := Lib.hid he; obtain ⟨rfl, hx⟩ := he; clear hx))
        go_ret
        exact HE.out
  · exact append_no s a n c b h _ rfl (fun e => hz (.inl e)) (fun e => hz (.inr e))
#print axioms append_any
end Go.Proofs.YtcnhifkpflaibaaDoor
