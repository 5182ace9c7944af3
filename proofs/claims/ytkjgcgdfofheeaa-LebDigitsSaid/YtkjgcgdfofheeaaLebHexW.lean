/-
  The walk of LebHex.
-/
import Derived.Test.YtkjgcgdfofheeaaStarts
import Derived.Test.YtkjgcgdfofheeaaAwake
import Derived.Deep.RegionHeld
namespace Go.Proofs.Ytkjgcgdfofheeaa
open Go.RowKit

theorem IdAt.range {w : World} {g : Nat} {l : List UInt8} (h : IdAt w g l) : w.rangeAt g 0 (l.map B) := fun j v hj => by
  rw [List.getElem?_map] at hj
  have hjl : j < l.length := by
    rcases Nat.lt_or_ge j l.length with h | h
    · exact h
    · rw [List.getElem?_eq_none h] at hj; cases hj
  simp only [List.getElem?_eq_getElem hjl, Option.map_some, Option.some.injEq] at hj
  subst hj
  rw [Nat.zero_add, h.cell j (by have := h.1; omega)]
  simp [hjl]

/-- Three ids that stand through the calls. -/
def Three (g0 g1 g2 : Nat) (l v m : List UInt8) (W : World) : Prop := IdAt W g0 l ∧ IdAt W g1 v ∧ IdAt W g2 m
theorem Three.next {g0 g1 g2 : Nat} {l v m : List UInt8} {W W' : World} (h : Three g0 g1 g2 l v m W) (hb : Below W.heap.size W W') : Three g0 g1 g2 l v m W' := ⟨h.1.below hb, h.2.1.below hb, h.2.2.below hb⟩
theorem Three.held {g0 g1 g2 : Nat} {l v m : List UInt8} {W : World} (h : Three g0 g1 g2 l v m W) : W.rangeAt g0 0 (l.map B) ∧ W.rangeAt g1 0 (v.map B) ∧ W.rangeAt g2 0 (m.map B) := ⟨h.1.range, h.2.1.range, h.2.2.range⟩

set_option maxRecDepth 100000 in
set_option maxHeartbeats 2000000 in
theorem lebHex_any (l : List UInt8) (hl : l.length = 32) (p : ByteArray) (w : World) (hp : p.size ≤ 9223372036854775807) :
    Calls Try.prog 5 #[.agg (idCells l), .string p] w fun e w' => e = .returned (.bool true) ∧ Below w.heap.size w w' := by
  have HL := Lib.hid hl
  have hi0 := idAt_box w l hl
  have hb0 : Below w.heap.size w (w.alloc (.cells (idCells l) 41)) := (Below.refl _ _).alloc (Nat.le_refl _) _
  obtain ⟨v, hv⟩ : ∃ v, v = unhexV p.data.toList := ⟨_, rfl⟩
  obtain ⟨b, hb⟩ : ∃ b, b = unhexB p.data.toList := ⟨_, rfl⟩
  have hv32 := Lib.hid (show v.length = 32 by rw [hv]; exact unhexV_length _)
  have HV := Lib.hid hv
  have HB := Lib.hid hb
  clear hl hv hb
  go_enter Try.func5, Try.ntmps5
  go_wp2_with (first
    | (go_at_call 21; go_must (refine (unhex_any p _ hp).mono ?_); rintro e w1 ⟨he1, hb1⟩; rw [← HV.out, ← HB.out] at he1; subst he1; have hi1 := hi0.below hb1; have hB1 := hb0.trans (hb1.mono hb0.size))
    | ((with_reducible show wpList _ _ _ (⟨some 5, _, _, _, _, _⟩ :: _) _ _); refine alloc_id rfl rfl ?_; intro w2 hid2 hb2 hsz2; have HS2 := Lib.hid hsz2; clear hsz2)
    | ((with_reducible show wpList _ _ _ (⟨none, .store 41 (.tmp 5) _, _, _, _, _⟩ :: _) _ _); refine store_id rfl (.tmp 5) (.tmp 12) rfl _ _ v rfl rfl hid2 hv32.out ?_; intro w3 hid3 hgr3 hsz3; have HS3 := Lib.hid hsz3; clear hsz3; have hB3 := (hB1.trans (hb2.mono hB1.size)).grown hgr3 (by have := hB1.size; have := HS2.out; omega) (fun k hk => by have := hB1.size; simp at hk; omega); have hi3 := (hi1.below hb2).grown hgr3 (by have := hi1.lt; simp; omega))
    | (go_at_call 22; go_must (refine (refUnhex_any p _).mono ?_); rintro e w4 ⟨he4, hb4⟩; rw [← HV.out, ← HB.out] at he4; subst he4; have hi4 := hi3.below hb4; have hid4 := hid3.below hb4; have hB4 := hB3.trans (hb4.mono hB3.size))
    | ((with_reducible show wpList _ _ _ (⟨some 7, _, _, _, _, _⟩ :: _) _ _); refine alloc_id rfl rfl ?_; intro w5 hid5 hb5 hsz5; have HS5 := Lib.hid hsz5; clear hsz5)
    | ((with_reducible show wpList _ _ _ (⟨none, .store 41 (.tmp 7) _, _, _, _, _⟩ :: _) _ _); refine store_id rfl (.tmp 7) (.tmp 17) rfl _ _ v rfl rfl hid5 hv32.out ?_; intro w6 hid6 hgr6 hsz6; have HS6 := Lib.hid hsz6; clear hsz6; have hB6 := (hB4.trans (hb5.mono hB4.size)).grown hgr6 (by have := hB4.size; have := HS5.out; omega) (fun k hk => by have := hB4.size; simp at hk; omega); have hi6 := (hi4.below hb5).grown hgr6 (by have := hi4.lt; simp; omega); have hid36 := (hid4.below hb5).grown hgr6 (by have := hid4.lt; simp; omega)))
  have heq : ∀ W, (Op.equalIn 10000 41 (.agg (v.map B).toArray) (.agg (v.map B).toArray)).run Try.prog W = .ok true W := fun W => run_eq_id W hv32.out
  have T0 : Three w.heap.size w1.heap.size w4.heap.size l v v w6.drew := ⟨hi6, hid36, hid6⟩
  have b0 : Below w6.heap.size w6 w6.drew := (Below.refl _ _).drew
  have hu := Try.underlying41
  have hi1 : (Try.prog.info? 41).map (·.size) = some (l.map B).length := by rw [List.length_map, HL.out]; exact info_id
  have hi2 : (Try.prog.info? 41).map (·.size) = some (v.map B).length := by rw [List.length_map, hv32.out]; exact info_id
  have H0 := T0.held
  clear hi0 hb0 hb1 hB1 hid2 hb2 HS2 hid3 hgr3 HS3 hB3 hi3 hb4 hi4 hid4 hB4 hid5 hb5 HS5 hid6 hgr6 HS6 hi6 hid36
  refine wp_region_held_drew (S := fun W => W.rangeAt w.heap.size 0 (l.map B) ∧ W.rangeAt w1.heap.size 0 (v.map B) ∧ W.rangeAt w4.heap.size 0 (v.map B)) (by kernel_rfl) H0 (fun hHeld => ?_)
  refine wpAnyH_take (i := 0) (oi := ⟨some 19, .load 41 (.tmp 2), _, _, _, _⟩) (v := _) rfl (by kernel_rfl) (by kernel_rfl) (by kernel_rfl) (fun _ _ _ h => h) (yieldsIf_load_mid (by rfl) _ _ rfl _ _ rfl _ _ (fun W hW => hW.1) hu rfl hi1) (by assumption) ?_
  simp only [Act.put, List.setIfInBounds_toArray, List.set_cons_zero, List.set_cons_succ]
  refine wpAnyH_take (i := 2) (oi := ⟨some 21, .load 41 (.tmp 2), _, _, _, _⟩) (v := _) rfl (by kernel_rfl) (by kernel_rfl) (by kernel_rfl) (fun _ _ _ h => h) (yieldsIf_load_mid (by rfl) _ _ rfl _ _ rfl _ _ (fun W hW => hW.1) hu rfl hi1) (by assumption) ?_
  simp only [Act.put, List.setIfInBounds_toArray, List.set_cons_zero, List.set_cons_succ]
  refine wpAnyH_ready (rs := [1]) (by kernel_rfl) (by simp) ?_
  refine AllReadyH.cons (o := ⟨some 20, .call { callee := .value (.func 23), args := #[.tmp 19], argTypes := #[41] }, _, _, _, _⟩) rfl (fun K hK => ?_) AllReadyH.nil
  go_simp
  go_wp2_with (go_at_call 23; refine (hex_any l HL.out _).mono ?_; rintro e w7 ⟨rfl, hb7⟩; have T7 := T0.next hb7; have H7 := T7.held; have b7 := b0.trans (hb7.mono b0.size))
  refine hK.out _ _ H7 (fun hHeld => ?_)
  clear hK K
  refine wpAnyH_ready (rs := [3]) (by kernel_rfl) (by simp) ?_
  refine AllReadyH.cons (o := ⟨some 22, .call { callee := .value (.func 24), args := #[.tmp 21], argTypes := #[41] }, _, _, _, _⟩) rfl (fun K hK => ?_) AllReadyH.nil
  go_simp
  go_wp2_with (go_at_call 24; refine (refHex_any l HL.out _).mono ?_; rintro e w8 ⟨rfl, hb8⟩; have T8 := T7.next hb8; have H8 := T8.held; have b8 := b7.trans (hb8.mono b7.size))
  refine hK.out _ _ H8 (fun hHeld => ?_)
  clear hK K
  refine wpAnyH_take (i := 4) (oi := ⟨some 23, .binOp .eql 9 (.tmp 20) (.tmp 22) 9, _, _, _, _⟩) (v := (.bool true)) rfl (by kernel_rfl) (by kernel_rfl) (by kernel_rfl) (fun _ _ _ h => h) (Or.inl ⟨by rfl, fun W hW => by go_simp⟩) (by assumption) ?_
  simp only [Act.put, List.setIfInBounds_toArray, List.set_cons_zero, List.set_cons_succ]
  refine wpAnyH_take (i := 5) (oi := ⟨some 24, .move (.tmp 23), _, _, _, _⟩) (v := (.bool true)) rfl (by kernel_rfl) (by kernel_rfl) (by kernel_rfl) (fun _ _ _ h => h) (Or.inl ⟨by rfl, fun W hW => by go_simp⟩) (by assumption) ?_
  simp only [Act.put, List.setIfInBounds_toArray, List.set_cons_zero, List.set_cons_succ]
  refine wpAnyH_take (i := 6) (oi := ⟨some 25, .load 41 (.tmp 5), _, _, _, _⟩) (v := _) rfl (by kernel_rfl) (by kernel_rfl) (by kernel_rfl) (fun _ _ _ h => h) (yieldsIf_load_mid (by rfl) _ _ rfl _ _ rfl _ _ (fun W hW => hW.2.1) hu rfl hi2) (by assumption) ?_
  simp only [Act.put, List.setIfInBounds_toArray, List.set_cons_zero, List.set_cons_succ]
  refine wpAnyH_take (i := 7) (oi := ⟨some 26, .load 41 (.tmp 7), _, _, _, _⟩) (v := _) rfl (by kernel_rfl) (by kernel_rfl) (by kernel_rfl) (fun _ _ _ h => h) (yieldsIf_load_mid (by rfl) _ _ rfl _ _ rfl _ _ (fun W hW => hW.2.2) hu rfl hi2) (by assumption) ?_
  simp only [Act.put, List.setIfInBounds_toArray, List.set_cons_zero, List.set_cons_succ]
  refine wpAnyH_take (i := 8) (oi := ⟨some 27, .binOp .eql 41 (.tmp 25) (.tmp 26) 41, _, _, _, _⟩) (v := (.bool true)) rfl (by kernel_rfl) (by kernel_rfl) (by kernel_rfl) (fun _ _ _ h => h) (Or.inl ⟨by rfl, fun W hW => by go_simp⟩) (by assumption) ?_
  simp only [Act.put, List.setIfInBounds_toArray, List.set_cons_zero, List.set_cons_succ]
  refine wpAnyH_take (i := 9) (oi := ⟨some 28, .pick (.tmp 24) (.tmp 27) (.const (.bool false)), _, _, _, _⟩) (v := (.bool true)) rfl (by kernel_rfl) (by kernel_rfl) (by kernel_rfl) (fun _ _ _ h => h) (Or.inl ⟨by rfl, fun W hW => by go_simp⟩) (by assumption) ?_
  simp only [Act.put, List.setIfInBounds_toArray, List.set_cons_zero, List.set_cons_succ]
  refine wpAnyH_take (i := 10) (oi := ⟨some 29, .move (.tmp 28), _, _, _, _⟩) (v := (.bool true)) rfl (by kernel_rfl) (by kernel_rfl) (by kernel_rfl) (fun _ _ _ h => h) (Or.inl ⟨by rfl, fun W hW => by go_simp⟩) (by assumption) ?_
  simp only [Act.put, List.setIfInBounds_toArray, List.set_cons_zero, List.set_cons_succ]
  refine wpAnyH_take (i := 11) (oi := ⟨some 30, .move (.tmp 6), _, _, _, _⟩) (v := (.bool b)) rfl (by kernel_rfl) (by kernel_rfl) (by kernel_rfl) (fun _ _ _ h => h) (Or.inl ⟨by rfl, fun W hW => by go_simp⟩) (by assumption) ?_
  simp only [Act.put, List.setIfInBounds_toArray, List.set_cons_zero, List.set_cons_succ]
  refine wpAnyH_take (i := 12) (oi := ⟨some 31, .move (.tmp 8), _, _, _, _⟩) (v := (.bool b)) rfl (by kernel_rfl) (by kernel_rfl) (by kernel_rfl) (fun _ _ _ h => h) (Or.inl ⟨by rfl, fun W hW => by go_simp⟩) (by assumption) ?_
  simp only [Act.put, List.setIfInBounds_toArray, List.set_cons_zero, List.set_cons_succ]
  refine wpAnyH_take (i := 13) (oi := ⟨some 32, .binOp .eql 4 (.tmp 30) (.tmp 31) 4, _, _, _, _⟩) (v := (.bool true)) rfl (by kernel_rfl) (by kernel_rfl) (by kernel_rfl) (fun _ _ _ h => h) (Or.inl ⟨by rfl, fun W hW => by go_simp⟩) (by assumption) ?_
  simp only [Act.put, List.setIfInBounds_toArray, List.set_cons_zero, List.set_cons_succ]
  refine wpAnyH_take (i := 14) (oi := ⟨some 33, .pick (.tmp 29) (.tmp 32) (.const (.bool false)), _, _, _, _⟩) (v := (.bool true)) rfl (by kernel_rfl) (by kernel_rfl) (by kernel_rfl) (fun _ _ _ h => h) (Or.inl ⟨by rfl, fun W hW => by go_simp⟩) (by assumption) ?_
  simp only [Act.put, List.setIfInBounds_toArray, List.set_cons_zero, List.set_cons_succ]
  refine wpAnyH_take (i := 15) (oi := ⟨some 34, .move (.tmp 33), _, _, _, _⟩) (v := (.bool true)) rfl (by kernel_rfl) (by kernel_rfl) (by kernel_rfl) (fun _ _ _ h => h) (Or.inl ⟨by rfl, fun W hW => by go_simp⟩) (by assumption) ?_
  simp only [Act.put, List.setIfInBounds_toArray, List.set_cons_zero, List.set_cons_succ]
  refine wpAnyH_take (i := 16) (oi := ⟨some 35, .load 41 (.tmp 2), _, _, _, _⟩) (v := _) rfl (by kernel_rfl) (by kernel_rfl) (by kernel_rfl) (fun _ _ _ h => h) (yieldsIf_load_mid (by rfl) _ _ rfl _ _ rfl _ _ (fun W hW => hW.1) hu rfl hi1) (by assumption) ?_
  simp only [Act.put, List.setIfInBounds_toArray, List.set_cons_zero, List.set_cons_succ]
  refine wpAnyH_take (i := 17) (oi := ⟨some 36, .move (.tmp 1), _, _, _, _⟩) (v := (.string p)) rfl (by kernel_rfl) (by kernel_rfl) (by kernel_rfl) (fun _ _ _ h => h) (Or.inl ⟨by rfl, fun W hW => by go_simp⟩) (by assumption) ?_
  simp only [Act.put, List.setIfInBounds_toArray, List.set_cons_zero, List.set_cons_succ]
  refine wpAnyH_take (i := 19) (oi := ⟨some 38, .load 41 (.tmp 2), _, _, _, _⟩) (v := _) rfl (by kernel_rfl) (by kernel_rfl) (by kernel_rfl) (fun _ _ _ h => h) (yieldsIf_load_mid (by rfl) _ _ rfl _ _ rfl _ _ (fun W hW => hW.1) hu rfl hi1) (by assumption) ?_
  simp only [Act.put, List.setIfInBounds_toArray, List.set_cons_zero, List.set_cons_succ]
  refine wpAnyH_take (i := 20) (oi := ⟨some 39, .move (.tmp 1), _, _, _, _⟩) (v := (.string p)) rfl (by kernel_rfl) (by kernel_rfl) (by kernel_rfl) (fun _ _ _ h => h) (Or.inl ⟨by rfl, fun W hW => by go_simp⟩) (by assumption) ?_
  simp only [Act.put, List.setIfInBounds_toArray, List.set_cons_zero, List.set_cons_succ]
  refine wpAnyH_ready (rs := [18]) (by kernel_rfl) (by simp) ?_
  refine AllReadyH.cons (o := ⟨some 37, .call { callee := .value (.func 25), args := #[.tmp 35, .tmp 36], argTypes := #[41, 9] }, _, _, _, _⟩) rfl (fun K hK => ?_) AllReadyH.nil
  go_simp
  go_wp2_with (go_at_call 25; refine (starts_any l HL.out p _).mono ?_; rintro e w9 ⟨rfl, hb9⟩; have T9 := T8.next hb9; have H9 := T9.held; have b9 := b8.trans (hb9.mono b8.size))
  refine hK.out _ _ H9 (fun hHeld => ?_)
  clear hK K
  refine wpAnyH_ready (rs := [21]) (by kernel_rfl) (by simp) ?_
  refine AllReadyH.cons (o := ⟨some 40, .call { callee := .value (.func 26), args := #[.tmp 38, .tmp 39], argTypes := #[41, 9] }, _, _, _, _⟩) rfl (fun K hK => ?_) AllReadyH.nil
  go_simp
  go_wp2_with (go_at_call 26; refine (refStarts_any l HL.out p _).mono ?_; rintro e w10 ⟨rfl, hb10⟩; have T10 := T9.next hb10; have H10 := T10.held; have b10 := b9.trans (hb10.mono b9.size))
  refine hK.out _ _ H10 (fun hHeld => ?_)
  clear hK K
  refine wpAnyH_take (i := 22) (oi := ⟨some 41, .binOp .eql 4 (.tmp 37) (.tmp 40) 4, _, _, _, _⟩) (v := (.bool true)) rfl (by kernel_rfl) (by kernel_rfl) (by kernel_rfl) (fun _ _ _ h => h) (Or.inl ⟨by rfl, fun W hW => by go_simp⟩) (by assumption) ?_
  simp only [Act.put, List.setIfInBounds_toArray, List.set_cons_zero, List.set_cons_succ]
  refine wpAnyH_take (i := 23) (oi := ⟨some 42, .pick (.tmp 34) (.tmp 41) (.const (.bool false)), _, _, _, _⟩) (v := (.bool true)) rfl (by kernel_rfl) (by kernel_rfl) (by kernel_rfl) (fun _ _ _ h => h) (Or.inl ⟨by rfl, fun W hW => by go_simp⟩) (by assumption) ?_
  simp only [Act.put, List.setIfInBounds_toArray, List.set_cons_zero, List.set_cons_succ]
  refine wpAnyH_take (i := 24) (oi := ⟨some 43, .move (.tmp 42), _, _, _, _⟩) (v := (.bool true)) rfl (by kernel_rfl) (by kernel_rfl) (by kernel_rfl) (fun _ _ _ h => h) (Or.inl ⟨by rfl, fun W hW => by go_simp⟩) (by assumption) ?_
  simp only [Act.put, List.setIfInBounds_toArray, List.set_cons_zero, List.set_cons_succ]
  refine wpAnyH_ready (rs := [25]) (by kernel_rfl) (by simp) ?_
  refine AllReadyH.cons (o := ⟨some 44, .call { callee := .value (.func 11), args := #[], argTypes := #[] }, _, _, _, _⟩) rfl (fun K hK => ?_) AllReadyH.nil
  go_simp
  go_wp2_with (go_at_call 11; refine (awake_any _).mono ?_; rintro e w11 ⟨rfl, hb11⟩; have T11 := T10.next hb11; have H11 := T11.held; have b11 := b10.trans (hb11.mono b10.size))
  refine hK.out _ _ H11 (fun hHeld => ?_)
  clear hK K
  refine wpAnyH_take (i := 26) (oi := ⟨some 45, .pick (.tmp 43) (.tmp 44) (.const (.bool false)), _, _, _, _⟩) (v := (.bool true)) rfl (by kernel_rfl) (by kernel_rfl) (by kernel_rfl) (fun _ _ _ h => h) (Or.inl ⟨by rfl, fun W hW => by go_simp⟩) (by assumption) ?_
  simp only [Act.put, List.setIfInBounds_toArray, List.set_cons_zero, List.set_cons_succ]
  refine wpAnyH_take (i := 27) (oi := ⟨some 4, .assign (.tmp 45), _, _, _, _⟩) (v := (.bool true)) rfl (by kernel_rfl) (by kernel_rfl) (by kernel_rfl) (fun _ _ _ h => h) (Or.inl ⟨by rfl, fun W hW => by go_simp⟩) (by assumption) ?_
  simp only [Act.put, List.setIfInBounds_toArray, List.set_cons_zero, List.set_cons_succ]
  refine wpAnyH_done (by kernel_rfl) ?_ _
  go_wp2_with fail
  go_ret
  exact ⟨rfl, hB6.trans (b11.mono hB6.size)⟩
#print axioms lebHex_any
end Go.Proofs.Ytkjgcgdfofheeaa
