/-
  The walk of Rename's closure.
-/
import Derived.Test.YtmlnmjpohkjgbaaDiskRemove
namespace Go.Proofs.Ytmlnmjpohkjgbaa
open Go.RowKit Go.Maps

theorem str_ne {x y : List UInt8} : ((strB x).toList == (strB y).toList) = (x == y) := by rw [Lib.toList_data, Lib.toList_data, strB_eq, strB_eq]
set_option maxRecDepth 100000 in
set_option maxHeartbeats 2000000 in
theorem renameC {F : Nat → Prop} {w : World} {db : Nat} {S : DS} {M : Mem} (nb tb xb : Nat) (s t : Nm) (k : Nat) (h : DiskIn F w db S M) (hi : Inv S) (hk : look S.now s = some k) (ht : mayN t = true) (hu : M.used = usedS S) (hs : S.kept.length + S.acts.length ≤ 1000000)
    (rx : RowAt w xb 24 [Pt db]) (rn : RowAt w nb 9 [.string (strB s)]) (rt : RowAt w tb 9 [.string (strB t)]) :
    Calls Try.prog 48 #[Pt nb, Pt tb, Pt xb] w fun e w' => e = .returned (.tuple #[]) ∧ TurnEnd (fun k => F k ∨ k = nb ∨ k = tb) (fun _ => False) w db S ⟨s, t, k⟩ w' := by
  have hm := hi.now.named _ (look_mem hk)
  have h' : DiskIn (fun k => F k ∨ k = nb ∨ k = tb) w db S M := h.wide (fun _ h => .inl h) (fun k hk => hk.elim (h.lt k) (fun e => e.elim (fun e => by rw [e]; exact rn.lt) (fun e => by rw [e]; exact rt.lt)))
  have hz : (strB t).size ≤ 80 := by rw [strB_size]; exact may_le ht
  have hd := used_move hi hk (may_ne ht)
  have SZ := Lib.hid (size_disk (w := w.drew) (h'.sameW ⟨rfl, rfl, rfl, rfl⟩) hi (strB t) hz)
  rw [strB_eq] at SZ
  have UF := Lib.hid (fun w' n hw => used_fin h' (w' := w') n hw)
  obtain ⟨_, c1, _, _, c4, _⟩ := h.facts
  rw [hu] at c4
  have f4 := h.row.free 4
  have cx := rx.cell 0 rfl
  have cn := rn.cell 0 rfl
  have ct := rt.cell 0 rfl
  have CH := Lib.hid (fun (W : World) (M' : Mem) (hW : DiskIn (fun k => F k ∨ k = nb ∨ k = tb) W db S M') (hn : RowAt W nb 9 [.string (strB s)]) (hn2 : RowAt W tb 9 [.string (strB t)]) => change_move ⟨s, t, k⟩ nb tb hW hi ⟨.inr ht, .inr ⟨may_ne hm, hk⟩⟩ hs (may_ne hm) (may_ne ht) (may_le hm) (may_le ht) (.inr (.inl rfl)) (.inr (.inr rfl)) hn hn2)
  have CH0 := Lib.hid (CH.out w M h' rn rt)
  have hb := used_le2 hi hs
  have HX := Lib.hid (ne_of_types rx h.row (by decide))
  have HN := Lib.hid (ne_of_types rn h.row (by decide))
  have HT := Lib.hid (ne_of_types rt h.row (by decide))
  have RX := Lib.hid rx
  have RN := Lib.hid rn
  have RT := Lib.hid rt
  have HM := Lib.hid hu
  obtain ⟨u', hu'⟩ : ∃ u', u' = usedS (doneS S ⟨s, t, k⟩) := ⟨_, rfl⟩
  have HU' := Lib.hid hu'
  rw [← hu'] at hd
  generalize hl : lenO S.files (look S.now t) = len at *
  have heq : ((strB s).toList == (strB t).toList) = (s == t) := str_ne
  by_cases e : s = t
  · rw [if_pos e] at hd
    have hbq : ((strB s).toList == (strB t).toList) = true := by rw [heq]; simpa using e
    have hbn : ((strB s).toList != (strB t).toList) = false := by simp [bne, hbq]
    have HUU := Lib.hid (show M.used = usedS (doneS S ⟨s, t, k⟩) by rw [hu, ← hu']; omega)
    clear hl h hi hk hu hs rx rn rt hm h' hz hd hb hu' heq ht e c1 c4 f4
    generalize hq : strB s = sb at *
    generalize hr : strB t = tbs at *
    clear hq hr
    go_enter Try.func48, Try.ntmps48
    go_wp2_with (first | (go_at_call 39; (with_reducible refine CH0.out.mono ?_); rintro e w9 ⟨rfl, k9, t9, av, d9⟩; have FIN := Lib.hid (turn_fin (B := fun _ => False) Chg.refl k9 d9 HUU.out); clear k9 t9 d9))
    first
      | exact bodyPost_end (results_none rfl _ _ _) rfl ⟨rfl, FIN.out⟩
      | exact bodyPost_ret (results_none rfl _ _ _) rfl ⟨rfl, FIN.out⟩
  · rw [if_neg e] at hd
    have hbq : ((strB s).toList == (strB t).toList) = false := by rw [heq]; simpa using e
    have hbn : ((strB s).toList != (strB t).toList) = true := by simp [bne, hbq]
    have q1 : (0 : Int) ≤ (usedS S : Int) := by omega
    have q2 : (usedS S : Int) ≤ 1073741824000000 := by omega
    have q3 : (0 : Int) ≤ (len : Int) := by omega
    have q4 : (len : Int) ≤ (usedS S : Int) := by omega
    have q5 : IntKind.i64.wrap ((usedS S : Int) - (len : Int)) = (u' : Int) := by rw [IntWalk.i64_in _ (by omega)]; omega
    have q6 : (usedS S : Int) - (len : Int) = (u' : Int) := by omega
    have Q6 := Lib.hid q6
    clear hl h hi hk hu hs rx rn rt hm h' hz hd hb hu' q6 heq ht e
    generalize usedS S = u at *
    generalize M.bf = bf at *
    generalize hq : strB s = sb at *
    generalize hr : strB t = tbs at *
    clear hq hr
    go_enter Try.func48, Try.ntmps48
    go_wp2
    go_still_tail 13, (by kernel_rfl)
    still_call (SZ.out.mono fun e w h => ⟨h.1, h.2.symm⟩)
    repeat still_step
    refine wpStill_nil ?_
    change wpList _ _ _ _ _ w.drew
    have UU := UF.out (w.setCell ⟨db, 4, none⟩ (.int .i64 (u' : Int))).drew u' ⟨rfl, rfl, rfl, rfl⟩
    have CC := Lib.hid (CH.out _ _ UU.2 ((RN.out.other (a := ⟨db, 4, none⟩) HN.out (.int .i64 (u' : Int)))) ((RT.out.other (a := ⟨db, 4, none⟩) HT.out (.int .i64 (u' : Int)))))
    have gx := (RX.out.other (a := ⟨db, 4, none⟩) HX.out (.int .i64 (u' : Int))).cell 0 rfl
    have K1 := Lib.hid UU.1
    clear UU q5
    go_wp2_with (first | (go_at_call 39; (with_reducible refine CC.out.mono ?_); rintro e w9 ⟨rfl, k9, t9, av, d9⟩; have FIN := Lib.hid (turn_fin (B := fun _ => False) K1.out k9 d9 HU'.out); clear k9 t9 d9))
    first
      | exact bodyPost_end (results_none rfl _ _ _) rfl ⟨rfl, FIN.out⟩
      | exact bodyPost_ret (results_none rfl _ _ _) rfl ⟨rfl, FIN.out⟩
#print axioms renameC
end Go.Proofs.Ytmlnmjpohkjgbaa
