/-
  The walk of LebDigits.
-/
import Derived.Test.YtkjgcgdfofheeaaStarts
import Derived.Test.YtkjgcgdfofheeaaLebHexW
namespace Go.Proofs.Ytkjgcgdfofheeaa
open Go.RowKit

theorem skip_step {c : Prop} [Decidable c] {A B : Prop} (h : ¬ c) (hB : B) : if c then A else B := by rw [if_neg h]; exact hB

theorem startsF_cut (l : List UInt8) (hl : l.length = 32) (r : Nat) (hr : r < 64) : startsF l ((strB (hexF l)).extract 0 (1 + r)).data.toList = true := by
  have e : ((strB (hexF l)).extract 0 (1 + r)).data.toList = (hexF l).take (1 + r) := by simp [strB, ByteArray.data_extract]
  have hx := hexF_length l
  rw [e]
  unfold startsF preF
  have h1 : ((hexF l).take (1 + r)).isPrefixOf (hexF l) = true := List.isPrefixOf_iff_prefix.2 (List.take_prefix _ _)
  have h2 : ((hexF l).take (1 + r)).isEmpty = false := by
    rw [List.isEmpty_eq_false_iff]
    intro hc
    have := congrArg List.length hc
    rw [List.length_take, List.length_nil] at this
    omega
  rw [h1, h2]
  rfl

theorem startsF_more (l : List UInt8) : startsF l (strB (hexF l ++ [48])).data.toList = false := by
  rw [strB_list]
  unfold startsF
  rw [preF_long _ _ (by simp)]
  simp

theorem starts_yes (l : List UInt8) (hl : l.length = 32) (r : Nat) (hr : r < 64) (w : World) :
    Calls Try.prog 25 #[.agg (l.map B).toArray, .string ((strB (hexF l)).extract 0 (1 + r))] w fun e w' => e = .returned (.bool true) ∧ Below w.heap.size w w' := by
  have h := starts_any l hl ((strB (hexF l)).extract 0 (1 + r)) w
  rw [startsF_cut l hl r hr] at h
  exact h
theorem starts_no (l : List UInt8) (hl : l.length = 32) (w : World) :
    Calls Try.prog 25 #[.agg (l.map B).toArray, .string (strB (hexF l ++ [48]))] w fun e w' => e = .returned (.bool false) ∧ Below w.heap.size w w' := by
  have h := starts_any l hl (strB (hexF l ++ [48])) w
  rw [startsF_more l] at h
  exact h
theorem hex_back (p : ByteArray) (m : List UInt8) (hm : m.length = 32) (hp : hexF m = p.data.toList) (w : World) :
    Calls Try.prog 23 #[.agg (m.map B).toArray] w fun e w' => e = .returned (.string p) ∧ Below w.heap.size w w' := by
  refine (hex_any m hm w).mono fun e w' h => ?_
  unfold HexIs at h
  rw [hp, strB_of] at h
  exact h

set_option maxRecDepth 100000 in
set_option maxHeartbeats 4000000 in
theorem lebDigits_any (l : List UInt8) (hl : l.length = 32) (p : ByteArray) (n : UInt8) (w : World) (hp : p.size ≤ 9223372036854775807) :
    Calls Try.prog 8 #[.agg (idCells l), .string p, .int .u8 (n.toNat : Int)] w fun e w' => e = .returned (.bool true) ∧ Below w.heap.size w w' := by
  have HL := Lib.hid hl
  have hi0 := idAt_box w l hl
  have hb0 : Below w.heap.size w (w.alloc (.cells (idCells l) 41)) := (Below.refl _ _).alloc (Nat.le_refl _) _
  obtain ⟨m, hm⟩ : ∃ m, m = unhexV p.data.toList := ⟨_, rfl⟩
  obtain ⟨b, hb⟩ : ∃ b, b = unhexB p.data.toList := ⟨_, rfl⟩
  have hm32 := Lib.hid (show m.length = 32 by rw [hm]; exact unhexV_length _)
  have HM := Lib.hid hm
  have HB := Lib.hid hb
  have HHB : Hid (b = true → hexF m = p.data.toList) := fun h => by rw [hm]; exact hex_unhex _ (by rw [← hb]; exact h)
  have HUH := Lib.hid (unhex_hex l hl)
  have hsz : (strB (hexF l)).size = 64 := by rw [strB_size, hexF_length]; omega
  have HSZ := Lib.hid hsz
  have hnn : n.toNat < 256 := n.toNat_lt
  obtain ⟨r, hr⟩ : ∃ r, r = n.toNat % 64 := ⟨_, rfl⟩
  have hr64 : r < 64 := by omega
  have HR := Lib.hid hr64
  have r0 : IntKind.i64.wrap (n.toNat : Int) = (n.toNat : Int) := by rw [IntKind.wrap_i64]; omega
  have r1 : (n.toNat : Int) % 64 = (r : Int) := by omega
  have r2 : (n.toNat : Int).tmod 64 = (r : Int) := by rw [Int.tmod_eq_emod_of_nonneg (by omega)]; exact r1
  have hcat := cat_run (hexF l) [48] (by rw [hexF_length]; simp; omega)
  have HCAT := Lib.hid hcat
  clear hl hm hb hr hcat hsz
  go_enter Try.func8, Try.ntmps8
  go_wp2_with (first
    | ((with_reducible show wpList _ _ _ (⟨some 13, _, _, _, _, _⟩ :: _) _ _); refine load_id rfl (.tmp 3) rfl _ _ rfl hi0 ?_)
    | ((with_reducible show Calls _ 23 _ (World.alloc w _) _); go_must (refine (hex_any l HL.out _).mono ?_); rintro e w1 ⟨rfl, hb1⟩; have hi1 := hi0.below hb1; have hB1 := hb0.trans (hb1.mono hb0.size))
    | ((with_reducible show Calls _ 21 #[.string (strB _)] _ _); go_must (refine (unhex_any (strB (hexF l)) _ (by rw [HSZ.out]; omega)).mono ?_); rintro e w2 ⟨he2, hb2⟩; rw [strB_list, HUH.out.1, HUH.out.2] at he2; subst he2; have hi2 := hi1.below hb2; have hB2 := hB1.trans (hb2.mono hB1.size))
    | ((with_reducible show wpList _ _ _ (⟨some 7, _, _, _, _, _⟩ :: _) _ _); refine alloc_id rfl rfl ?_; intro w3 hid3 hb3 hsz3; have HS3 := Lib.hid hsz3; clear hsz3)
    | ((with_reducible show wpList _ _ _ (⟨none, .store 41 (.tmp 7) _, _, _, _, _⟩ :: _) _ _); refine store_id rfl (.tmp 7) (.tmp 16) rfl _ _ l rfl rfl hid3 HL.out ?_; intro w4 hid4 hgr4 hsz4; have HS4 := Lib.hid hsz4; clear hsz4; have hB4 := (hB2.trans (hb3.mono hB2.size)).grown hgr4 (by have := hB2.size; have := HS3.out; omega) (fun k hk => by have := hB2.size; simp at hk; omega); have hi4 := (hi2.below hb3).grown hgr4 (by have := hi2.lt; simp; omega))
    | ((with_reducible show Calls _ 21 #[.string p] w4 _); go_must (refine (unhex_any p _ hp).mono ?_); rintro e w5 ⟨he5, hb5⟩; rw [← HM.out, ← HB.out] at he5; subst he5; have hi5 := hi4.below hb5; have hid5 := hid4.below hb5; have hB5 := hB4.trans (hb5.mono hB4.size))
    | ((with_reducible show wpList _ _ _ (⟨some 9, _, _, _, _, _⟩ :: _) _ _); refine alloc_id rfl rfl ?_; intro w6 hid6 hb6 hsz6; have HS6 := Lib.hid hsz6; clear hsz6)
    | ((with_reducible show wpList _ _ _ (⟨none, .store 41 (.tmp 9) _, _, _, _, _⟩ :: _) _ _); refine store_id rfl (.tmp 9) (.tmp 21) rfl _ _ m rfl rfl hid6 hm32.out ?_; intro w7 hid7 hgr7 hsz7; have HS7 := Lib.hid hsz7; clear hsz7; have hB7 := (hB5.trans (hb6.mono hB5.size)).grown hgr7 (by have := hB5.size; have := HS6.out; omega) (fun k hk => by have := hB5.size; simp at hk; omega); have hi7 := (hi5.below hb6).grown hgr7 (by have := hi5.lt; simp; omega); have hid57 := (hid5.below hb6).grown hgr7 (by have := hid5.lt; simp; omega))
    | ((with_reducible show wpList _ _ _ (⟨some 23, _, _, _, _, _⟩ :: _) _ _); refine load_id rfl (.tmp 3) rfl _ _ rfl hi7 ?_)
    | ((with_reducible show Calls _ 23 _ w7 _); go_must (refine (hex_any l HL.out _).mono ?_); rintro e w8 ⟨rfl, hb8⟩; have hi8 := hi7.below hb8; have hid58 := hid57.below hb8; have hid78 := hid7.below hb8; have hB8 := hB7.trans (hb8.mono hB7.size); have hsz := HSZ.out))
  have heq : ∀ W, (Op.equalIn 10000 41 (.agg (l.map B).toArray) (.agg (l.map B).toArray)).run Try.prog W = .ok true W := fun W => run_eq_id W HL.out
  have T8 : Three w.heap.size w2.heap.size w5.heap.size l l m w8.drew := ⟨hi8, hid58, hid78⟩
  have b8 : Below w8.heap.size w8 w8.drew := (Below.refl _ _).drew
  have hu := Try.underlying41
  have hi1 : (Try.prog.info? 41).map (·.size) = some (l.map B).length := by rw [List.length_map, HL.out]; exact info_id
  have hi2 : (Try.prog.info? 41).map (·.size) = some (m.map B).length := by rw [List.length_map, hm32.out]; exact info_id
  have H8 := T8.held
  have r3 : IntKind.i64.wrap (1 + (r : Int)) = 1 + (r : Int) := by rw [IntKind.wrap_i64]; omega
  have r4 : (1 + (r : Int)).toNat = 1 + r := by omega
  have r5 : (0 : Int) ≤ 1 + (r : Int) := by omega
  have r6 : 1 + (r : Int) ≤ 64 := by omega
  have hcat := HCAT.out
  have hz48 : (⟨#[48]⟩ : ByteArray) = strB [48] := rfl
  clear hb0 hb1 hB1 hb2 hB2 hid3 hb3 HS3 hid4 hgr4 HS4 hB4 hi4 hb5 hi5 hid5 hB5 hid6 hb6 HS6 hid7 hgr7 HS7 hB7 hi7 hid57 hb8 hi8 hid58 hid78 hi0
  cases b with
  | true =>
    have HHB := Lib.hid (HHB.out rfl)
    refine wp_region_held_drew (S := fun W => W.rangeAt w.heap.size 0 (l.map B) ∧ W.rangeAt w2.heap.size 0 (l.map B) ∧ W.rangeAt w5.heap.size 0 (m.map B)) (by kernel_rfl) H8 (fun hHeld => ?_)
    refine wpAnyH_take (i := 0) (oi := ⟨some 28, .move (.tmp 8), _, _, _, _⟩) (v := (.bool true)) rfl (by kernel_rfl) (by kernel_rfl) (by kernel_rfl) (fun _ _ _ h => h) (Or.inl ⟨by rfl, fun W hW => by go_simp⟩) (by assumption) ?_
    simp only [Act.put, List.setIfInBounds_toArray, List.set_cons_zero, List.set_cons_succ]
    refine wpAnyH_take (i := 1) (oi := ⟨some 29, .move (.tmp 28), _, _, _, _⟩) (v := (.bool true)) rfl (by kernel_rfl) (by kernel_rfl) (by kernel_rfl) (fun _ _ _ h => h) (Or.inl ⟨by rfl, fun W hW => by go_simp⟩) (by assumption) ?_
    simp only [Act.put, List.setIfInBounds_toArray, List.set_cons_zero, List.set_cons_succ]
    refine wpAnyH_take (i := 2) (oi := ⟨some 30, .load 41 (.tmp 7), _, _, _, _⟩) (v := _) rfl (by kernel_rfl) (by kernel_rfl) (by kernel_rfl) (fun _ _ _ h => h) (yieldsIf_load_mid (by rfl) _ _ rfl _ _ rfl _ _ (fun W hW => hW.2.1) hu rfl hi1) (by assumption) ?_
    simp only [Act.put, List.setIfInBounds_toArray, List.set_cons_zero, List.set_cons_succ]
    refine wpAnyH_take (i := 3) (oi := ⟨some 31, .load 41 (.tmp 3), _, _, _, _⟩) (v := _) rfl (by kernel_rfl) (by kernel_rfl) (by kernel_rfl) (fun _ _ _ h => h) (yieldsIf_load_mid (by rfl) _ _ rfl _ _ rfl _ _ (fun W hW => hW.1) hu rfl hi1) (by assumption) ?_
    simp only [Act.put, List.setIfInBounds_toArray, List.set_cons_zero, List.set_cons_succ]
    refine wpAnyH_take (i := 4) (oi := ⟨some 32, .binOp .eql 41 (.tmp 30) (.tmp 31) 41, _, _, _, _⟩) (v := (.bool true)) rfl (by kernel_rfl) (by kernel_rfl) (by kernel_rfl) (fun _ _ _ h => h) (Or.inl ⟨by rfl, fun W hW => by go_simp⟩) (by assumption) ?_
    simp only [Act.put, List.setIfInBounds_toArray, List.set_cons_zero, List.set_cons_succ]
    refine wpAnyH_take (i := 5) (oi := ⟨some 33, .pick (.tmp 29) (.tmp 32) (.const (.bool false)), _, _, _, _⟩) (v := (.bool true)) rfl (by kernel_rfl) (by kernel_rfl) (by kernel_rfl) (fun _ _ _ h => h) (Or.inl ⟨by rfl, fun W hW => by go_simp⟩) (by assumption) ?_
    simp only [Act.put, List.setIfInBounds_toArray, List.set_cons_zero, List.set_cons_succ]
    refine wpAnyH_take (i := 6) (oi := ⟨some 34, .move (.tmp 33), _, _, _, _⟩) (v := (.bool true)) rfl (by kernel_rfl) (by kernel_rfl) (by kernel_rfl) (fun _ _ _ h => h) (Or.inl ⟨by rfl, fun W hW => by go_simp⟩) (by assumption) ?_
    simp only [Act.put, List.setIfInBounds_toArray, List.set_cons_zero, List.set_cons_succ]
    refine wpAnyH_take (i := 7) (oi := ⟨some 35, .move (.tmp 10), _, _, _, _⟩) (v := (.bool true)) rfl (by kernel_rfl) (by kernel_rfl) (by kernel_rfl) (fun _ _ _ h => h) (Or.inl ⟨by rfl, fun W hW => by go_simp⟩) (by assumption) ?_
    simp only [Act.put, List.setIfInBounds_toArray, List.set_cons_zero, List.set_cons_succ]
    refine wpAnyH_take (i := 8) (oi := ⟨some 36, .unOp .not 4 (.tmp 35), _, _, _, _⟩) (v := (.bool false)) rfl (by kernel_rfl) (by kernel_rfl) (by kernel_rfl) (fun _ _ _ h => h) (Or.inl ⟨by rfl, fun W hW => by go_simp⟩) (by assumption) ?_
    simp only [Act.put, List.setIfInBounds_toArray, List.set_cons_zero, List.set_cons_succ]
    refine wpAnyH_take (i := 9) (oi := ⟨some 37, .move (.tmp 36), _, _, _, _⟩) (v := (.bool false)) rfl (by kernel_rfl) (by kernel_rfl) (by kernel_rfl) (fun _ _ _ h => h) (Or.inl ⟨by rfl, fun W hW => by go_simp⟩) (by assumption) ?_
    simp only [Act.put, List.setIfInBounds_toArray, List.set_cons_zero, List.set_cons_succ]
    refine wpAnyH_take (i := 10) (oi := ⟨some 38, .load 41 (.tmp 9), _, _, _, _⟩) (v := _) rfl (by kernel_rfl) (by kernel_rfl) (by kernel_rfl) (fun _ _ _ h => h) (yieldsIf_load_mid (by rfl) _ _ rfl _ _ rfl _ _ (fun W hW => hW.2.2) hu rfl hi2) (by assumption) ?_
    simp only [Act.put, List.setIfInBounds_toArray, List.set_cons_zero, List.set_cons_succ]
    refine wpAnyH_take (i := 12) (oi := ⟨some 40, .move (.tmp 1), _, _, _, _⟩) (v := (.string p)) rfl (by kernel_rfl) (by kernel_rfl) (by kernel_rfl) (fun _ _ _ h => h) (Or.inl ⟨by rfl, fun W hW => by go_simp⟩) (by assumption) ?_
    simp only [Act.put, List.setIfInBounds_toArray, List.set_cons_zero, List.set_cons_succ]
    refine wpAnyH_ready (rs := [11]) (by kernel_rfl) (by simp) ?_
    refine AllReadyH.cons (o := ⟨some 39, .call { callee := .value (.func 23), args := #[.tmp 38], argTypes := #[41] }, _, _, _, _⟩) rfl (fun K hK => ?_) AllReadyH.nil
    go_simp
    go_wp2_with (go_at_call 23; refine (hex_back p m hm32.out HHB.out _).mono ?_; rintro e w9 ⟨rfl, hb9⟩; have T9 := T8.next hb9; have H9 := T9.held; have b9 := b8.trans (hb9.mono b8.size))
    refine hK.out _ _ H9 (fun hHeld => ?_)
    clear hK K
    refine wpAnyH_take (i := 13) (oi := ⟨some 41, .binOp .eql 9 (.tmp 39) (.tmp 40) 9, _, _, _, _⟩) (v := (.bool true)) rfl (by kernel_rfl) (by kernel_rfl) (by kernel_rfl) (fun _ _ _ h => h) (Or.inl ⟨by rfl, fun W hW => by go_simp⟩) (by assumption) ?_
    simp only [Act.put, List.setIfInBounds_toArray, List.set_cons_zero, List.set_cons_succ]
    refine wpAnyH_take (i := 14) (oi := ⟨some 42, .pick (.tmp 37) (.const (.bool true)) (.tmp 41), _, _, _, _⟩) (v := (.bool true)) rfl (by kernel_rfl) (by kernel_rfl) (by kernel_rfl) (fun _ _ _ h => h) (Or.inl ⟨by rfl, fun W hW => by go_simp⟩) (by assumption) ?_
    simp only [Act.put, List.setIfInBounds_toArray, List.set_cons_zero, List.set_cons_succ]
    refine wpAnyH_take (i := 15) (oi := ⟨some 43, .pick (.tmp 34) (.tmp 42) (.const (.bool false)), _, _, _, _⟩) (v := (.bool true)) rfl (by kernel_rfl) (by kernel_rfl) (by kernel_rfl) (fun _ _ _ h => h) (Or.inl ⟨by rfl, fun W hW => by go_simp⟩) (by assumption) ?_
    simp only [Act.put, List.setIfInBounds_toArray, List.set_cons_zero, List.set_cons_succ]
    refine wpAnyH_take (i := 16) (oi := ⟨some 44, .move (.tmp 43), _, _, _, _⟩) (v := (.bool true)) rfl (by kernel_rfl) (by kernel_rfl) (by kernel_rfl) (fun _ _ _ h => h) (Or.inl ⟨by rfl, fun W hW => by go_simp⟩) (by assumption) ?_
    simp only [Act.put, List.setIfInBounds_toArray, List.set_cons_zero, List.set_cons_succ]
    refine wpAnyH_take (i := 17) (oi := ⟨some 45, .load 41 (.tmp 3), _, _, _, _⟩) (v := _) rfl (by kernel_rfl) (by kernel_rfl) (by kernel_rfl) (fun _ _ _ h => h) (yieldsIf_load_mid (by rfl) _ _ rfl _ _ rfl _ _ (fun W hW => hW.1) hu rfl hi1) (by assumption) ?_
    simp only [Act.put, List.setIfInBounds_toArray, List.set_cons_zero, List.set_cons_succ]
    refine wpAnyH_take (i := 18) (oi := ⟨some 46, .move (.tmp 11), _, _, _, _⟩) (v := (.string (strB (hexF l)))) rfl (by kernel_rfl) (by kernel_rfl) (by kernel_rfl) (fun _ _ _ h => h) (Or.inl ⟨by rfl, fun W hW => by go_simp⟩) (by assumption) ?_
    simp only [Act.put, List.setIfInBounds_toArray, List.set_cons_zero, List.set_cons_succ]
    refine wpAnyH_take (i := 19) (oi := ⟨some 47, .move (.tmp 2), _, _, _, _⟩) (v := (.int .u8 (n.toNat : Int))) rfl (by kernel_rfl) (by kernel_rfl) (by kernel_rfl) (fun _ _ _ h => h) (Or.inl ⟨by rfl, fun W hW => by go_simp⟩) (by assumption) ?_
    simp only [Act.put, List.setIfInBounds_toArray, List.set_cons_zero, List.set_cons_succ]
    refine wpAnyH_take (i := 20) (oi := ⟨some 48, .convert 5 3 (.tmp 47), _, _, _, _⟩) (v := (.int .i64 (n.toNat : Int))) rfl (by kernel_rfl) (by kernel_rfl) (by kernel_rfl) (fun _ _ _ h => h) (Or.inl ⟨by rfl, fun W hW => by go_simp⟩) (by assumption) ?_
    simp only [Act.put, List.setIfInBounds_toArray, List.set_cons_zero, List.set_cons_succ]
    refine wpAnyH_take (i := 21) (oi := ⟨some 49, .binOp .rem 3 (.tmp 48) (.const (.int .i64 64)) 3, _, _, _, _⟩) (v := (.int .i64 (r : Int))) rfl (by kernel_rfl) (by kernel_rfl) (by kernel_rfl) (fun _ _ _ h => h) (Or.inl ⟨by rfl, fun W hW => by go_simp⟩) (by assumption) ?_
    simp only [Act.put, List.setIfInBounds_toArray, List.set_cons_zero, List.set_cons_succ]
    refine wpAnyH_take (i := 22) (oi := ⟨some 50, .binOp .add 3 (.const (.int .i64 1)) (.tmp 49) 3, _, _, _, _⟩) (v := (.int .i64 (1 + (r : Int)))) rfl (by kernel_rfl) (by kernel_rfl) (by kernel_rfl) (fun _ _ _ h => h) (Or.inl ⟨by rfl, fun W hW => by go_simp⟩) (by assumption) ?_
    simp only [Act.put, List.setIfInBounds_toArray, List.set_cons_zero, List.set_cons_succ]
    refine wpAnyH_take (i := 23) (oi := ⟨some 51, .slice 9 (.tmp 46) none (some (.tmp 50)) none, _, _, _, _⟩) (v := (.string ((strB (hexF l)).extract 0 (1 + r)))) rfl (by kernel_rfl) (by kernel_rfl) (by kernel_rfl) (fun _ _ _ h => h) (Or.inl ⟨by rfl, fun W hW => by go_simp⟩) (by assumption) ?_
    simp only [Act.put, List.setIfInBounds_toArray, List.set_cons_zero, List.set_cons_succ]
    refine wpAnyH_ready (rs := [24]) (by kernel_rfl) (by simp) ?_
    refine AllReadyH.cons (o := ⟨some 52, .call { callee := .value (.func 25), args := #[.tmp 45, .tmp 51], argTypes := #[41, 9] }, _, _, _, _⟩) rfl (fun K hK => ?_) AllReadyH.nil
    go_simp
    go_wp2_with (go_at_call 25; refine (starts_yes l HL.out r HR.out _).mono ?_; rintro e w10 ⟨rfl, hb10⟩; have T10 := T9.next hb10; have H10 := T10.held; have b10 := b9.trans (hb10.mono b9.size))
    refine hK.out _ _ H10 (fun hHeld => ?_)
    clear hK K
    refine wpAnyH_take (i := 25) (oi := ⟨some 53, .pick (.tmp 44) (.tmp 52) (.const (.bool false)), _, _, _, _⟩) (v := (.bool true)) rfl (by kernel_rfl) (by kernel_rfl) (by kernel_rfl) (fun _ _ _ h => h) (Or.inl ⟨by rfl, fun W hW => by go_simp⟩) (by assumption) ?_
    simp only [Act.put, List.setIfInBounds_toArray, List.set_cons_zero, List.set_cons_succ]
    refine wpAnyH_take (i := 26) (oi := ⟨some 54, .move (.tmp 53), _, _, _, _⟩) (v := (.bool true)) rfl (by kernel_rfl) (by kernel_rfl) (by kernel_rfl) (fun _ _ _ h => h) (Or.inl ⟨by rfl, fun W hW => by go_simp⟩) (by assumption) ?_
    simp only [Act.put, List.setIfInBounds_toArray, List.set_cons_zero, List.set_cons_succ]
    refine wpAnyH_take (i := 27) (oi := ⟨some 55, .load 41 (.tmp 3), _, _, _, _⟩) (v := _) rfl (by kernel_rfl) (by kernel_rfl) (by kernel_rfl) (fun _ _ _ h => h) (yieldsIf_load_mid (by rfl) _ _ rfl _ _ rfl _ _ (fun W hW => hW.1) hu rfl hi1) (by assumption) ?_
    simp only [Act.put, List.setIfInBounds_toArray, List.set_cons_zero, List.set_cons_succ]
    refine wpAnyH_take (i := 28) (oi := ⟨some 56, .move (.tmp 11), _, _, _, _⟩) (v := (.string (strB (hexF l)))) rfl (by kernel_rfl) (by kernel_rfl) (by kernel_rfl) (fun _ _ _ h => h) (Or.inl ⟨by rfl, fun W hW => by go_simp⟩) (by assumption) ?_
    simp only [Act.put, List.setIfInBounds_toArray, List.set_cons_zero, List.set_cons_succ]
    refine wpAnyH_take (i := 29) (oi := ⟨some 57, .binOp .add 9 (.tmp 56) (.const (.string ⟨#[48]⟩)) 9, _, _, _, _⟩) (v := (.string (strB (hexF l ++ [48])))) rfl (by kernel_rfl) (by kernel_rfl) (by kernel_rfl) (fun _ _ _ h => h) (Or.inl ⟨by rfl, fun W hW => by go_simp⟩) (by assumption) ?_
    simp only [Act.put, List.setIfInBounds_toArray, List.set_cons_zero, List.set_cons_succ]
    refine wpAnyH_ready (rs := [30]) (by kernel_rfl) (by simp) ?_
    refine AllReadyH.cons (o := ⟨some 58, .call { callee := .value (.func 25), args := #[.tmp 55, .tmp 57], argTypes := #[41, 9] }, _, _, _, _⟩) rfl (fun K hK => ?_) AllReadyH.nil
    go_simp
    go_wp2_with (go_at_call 25; refine (starts_no l HL.out _).mono ?_; rintro e w11 ⟨rfl, hb11⟩; have T11 := T10.next hb11; have H11 := T11.held; have b11 := b10.trans (hb11.mono b10.size))
    refine hK.out _ _ H11 (fun hHeld => ?_)
    clear hK K
    refine wpAnyH_take (i := 31) (oi := ⟨some 59, .unOp .not 4 (.tmp 58), _, _, _, _⟩) (v := (.bool true)) rfl (by kernel_rfl) (by kernel_rfl) (by kernel_rfl) (fun _ _ _ h => h) (Or.inl ⟨by rfl, fun W hW => by go_simp⟩) (by assumption) ?_
    simp only [Act.put, List.setIfInBounds_toArray, List.set_cons_zero, List.set_cons_succ]
    refine wpAnyH_take (i := 32) (oi := ⟨some 60, .pick (.tmp 54) (.tmp 59) (.const (.bool false)), _, _, _, _⟩) (v := (.bool true)) rfl (by kernel_rfl) (by kernel_rfl) (by kernel_rfl) (fun _ _ _ h => h) (Or.inl ⟨by rfl, fun W hW => by go_simp⟩) (by assumption) ?_
    simp only [Act.put, List.setIfInBounds_toArray, List.set_cons_zero, List.set_cons_succ]
    refine wpAnyH_take (i := 33) (oi := ⟨some 61, .move (.tmp 60), _, _, _, _⟩) (v := (.bool true)) rfl (by kernel_rfl) (by kernel_rfl) (by kernel_rfl) (fun _ _ _ h => h) (Or.inl ⟨by rfl, fun W hW => by go_simp⟩) (by assumption) ?_
    simp only [Act.put, List.setIfInBounds_toArray, List.set_cons_zero, List.set_cons_succ]
    refine wpAnyH_ready (rs := [34]) (by kernel_rfl) (by simp) ?_
    refine AllReadyH.cons (o := ⟨some 62, .call { callee := .value (.func 11), args := #[], argTypes := #[] }, _, _, _, _⟩) rfl (fun K hK => ?_) AllReadyH.nil
    go_simp
    go_wp2_with (go_at_call 11; refine (awake_any _).mono ?_; rintro e w12 ⟨rfl, hb12⟩; have T12 := T11.next hb12; have H12 := T12.held; have b12 := b11.trans (hb12.mono b11.size))
    refine hK.out _ _ H12 (fun hHeld => ?_)
    clear hK K
    refine wpAnyH_take (i := 35) (oi := ⟨some 63, .pick (.tmp 61) (.tmp 62) (.const (.bool false)), _, _, _, _⟩) (v := (.bool true)) rfl (by kernel_rfl) (by kernel_rfl) (by kernel_rfl) (fun _ _ _ h => h) (Or.inl ⟨by rfl, fun W hW => by go_simp⟩) (by assumption) ?_
    simp only [Act.put, List.setIfInBounds_toArray, List.set_cons_zero, List.set_cons_succ]
    refine wpAnyH_take (i := 36) (oi := ⟨some 6, .assign (.tmp 63), _, _, _, _⟩) (v := (.bool true)) rfl (by kernel_rfl) (by kernel_rfl) (by kernel_rfl) (fun _ _ _ h => h) (Or.inl ⟨by rfl, fun W hW => by go_simp⟩) (by assumption) ?_
    simp only [Act.put, List.setIfInBounds_toArray, List.set_cons_zero, List.set_cons_succ]
    refine wpAnyH_done (by kernel_rfl) ?_ _
    go_wp2_with fail
    go_ret
    exact ⟨rfl, hB8.trans (b12.mono hB8.size)⟩
  | false =>
    refine wp_region_held_drew (S := fun W => W.rangeAt w.heap.size 0 (l.map B) ∧ W.rangeAt w2.heap.size 0 (l.map B) ∧ W.rangeAt w5.heap.size 0 (m.map B)) (by kernel_rfl) H8 (fun hHeld => ?_)
    refine wpAnyH_take (i := 0) (oi := ⟨some 28, .move (.tmp 8), _, _, _, _⟩) (v := (.bool true)) rfl (by kernel_rfl) (by kernel_rfl) (by kernel_rfl) (fun _ _ _ h => h) (Or.inl ⟨by rfl, fun W hW => by go_simp⟩) (by assumption) ?_
    simp only [Act.put, List.setIfInBounds_toArray, List.set_cons_zero, List.set_cons_succ]
    refine wpAnyH_take (i := 1) (oi := ⟨some 29, .move (.tmp 28), _, _, _, _⟩) (v := (.bool true)) rfl (by kernel_rfl) (by kernel_rfl) (by kernel_rfl) (fun _ _ _ h => h) (Or.inl ⟨by rfl, fun W hW => by go_simp⟩) (by assumption) ?_
    simp only [Act.put, List.setIfInBounds_toArray, List.set_cons_zero, List.set_cons_succ]
    refine wpAnyH_take (i := 2) (oi := ⟨some 30, .load 41 (.tmp 7), _, _, _, _⟩) (v := _) rfl (by kernel_rfl) (by kernel_rfl) (by kernel_rfl) (fun _ _ _ h => h) (yieldsIf_load_mid (by rfl) _ _ rfl _ _ rfl _ _ (fun W hW => hW.2.1) hu rfl hi1) (by assumption) ?_
    simp only [Act.put, List.setIfInBounds_toArray, List.set_cons_zero, List.set_cons_succ]
    refine wpAnyH_take (i := 3) (oi := ⟨some 31, .load 41 (.tmp 3), _, _, _, _⟩) (v := _) rfl (by kernel_rfl) (by kernel_rfl) (by kernel_rfl) (fun _ _ _ h => h) (yieldsIf_load_mid (by rfl) _ _ rfl _ _ rfl _ _ (fun W hW => hW.1) hu rfl hi1) (by assumption) ?_
    simp only [Act.put, List.setIfInBounds_toArray, List.set_cons_zero, List.set_cons_succ]
    refine wpAnyH_take (i := 4) (oi := ⟨some 32, .binOp .eql 41 (.tmp 30) (.tmp 31) 41, _, _, _, _⟩) (v := (.bool true)) rfl (by kernel_rfl) (by kernel_rfl) (by kernel_rfl) (fun _ _ _ h => h) (Or.inl ⟨by rfl, fun W hW => by go_simp⟩) (by assumption) ?_
    simp only [Act.put, List.setIfInBounds_toArray, List.set_cons_zero, List.set_cons_succ]
    refine wpAnyH_take (i := 5) (oi := ⟨some 33, .pick (.tmp 29) (.tmp 32) (.const (.bool false)), _, _, _, _⟩) (v := (.bool true)) rfl (by kernel_rfl) (by kernel_rfl) (by kernel_rfl) (fun _ _ _ h => h) (Or.inl ⟨by rfl, fun W hW => by go_simp⟩) (by assumption) ?_
    simp only [Act.put, List.setIfInBounds_toArray, List.set_cons_zero, List.set_cons_succ]
    refine wpAnyH_take (i := 6) (oi := ⟨some 34, .move (.tmp 33), _, _, _, _⟩) (v := (.bool true)) rfl (by kernel_rfl) (by kernel_rfl) (by kernel_rfl) (fun _ _ _ h => h) (Or.inl ⟨by rfl, fun W hW => by go_simp⟩) (by assumption) ?_
    simp only [Act.put, List.setIfInBounds_toArray, List.set_cons_zero, List.set_cons_succ]
    refine wpAnyH_take (i := 7) (oi := ⟨some 35, .move (.tmp 10), _, _, _, _⟩) (v := (.bool false)) rfl (by kernel_rfl) (by kernel_rfl) (by kernel_rfl) (fun _ _ _ h => h) (Or.inl ⟨by rfl, fun W hW => by go_simp⟩) (by assumption) ?_
    simp only [Act.put, List.setIfInBounds_toArray, List.set_cons_zero, List.set_cons_succ]
    refine wpAnyH_take (i := 8) (oi := ⟨some 36, .unOp .not 4 (.tmp 35), _, _, _, _⟩) (v := (.bool true)) rfl (by kernel_rfl) (by kernel_rfl) (by kernel_rfl) (fun _ _ _ h => h) (Or.inl ⟨by rfl, fun W hW => by go_simp⟩) (by assumption) ?_
    simp only [Act.put, List.setIfInBounds_toArray, List.set_cons_zero, List.set_cons_succ]
    refine wpAnyH_take (i := 9) (oi := ⟨some 37, .move (.tmp 36), _, _, _, _⟩) (v := (.bool true)) rfl (by kernel_rfl) (by kernel_rfl) (by kernel_rfl) (fun _ _ _ h => h) (Or.inl ⟨by rfl, fun W hW => by go_simp⟩) (by assumption) ?_
    simp only [Act.put, List.setIfInBounds_toArray, List.set_cons_zero, List.set_cons_succ]
    refine wpAnyH_take (i := 10) (oi := ⟨some 38, .load 41 (.tmp 9), _, _, _, _⟩) (v := undef) rfl (by kernel_rfl) (by kernel_rfl) (by kernel_rfl) (fun _ _ _ h => h) (Or.inr ⟨by rfl, rfl⟩) (by assumption) ?_
    simp only [Act.put, List.setIfInBounds_toArray, List.set_cons_zero, List.set_cons_succ]
    refine wpAnyH_take (i := 12) (oi := ⟨some 40, .move (.tmp 1), _, _, _, _⟩) (v := undef) rfl (by kernel_rfl) (by kernel_rfl) (by kernel_rfl) (fun _ _ _ h => h) (Or.inr ⟨by rfl, rfl⟩) (by assumption) ?_
    simp only [Act.put, List.setIfInBounds_toArray, List.set_cons_zero, List.set_cons_succ]
    refine wpAnyH_ready (rs := [11]) (by kernel_rfl) (by simp) ?_
    refine AllReadyH.cons (o := ⟨some 39, .call { callee := .value (.func 23), args := #[.tmp 38], argTypes := #[41] }, _, _, _, _⟩) rfl (fun K hK => ?_) AllReadyH.nil
    refine skip_step Bool.false_ne_true ?_
    refine hK.out _ _ hHeld (fun hHeld => ?_)
    clear hK K
    simp only [Act.put, List.setIfInBounds_toArray, List.set_cons_zero, List.set_cons_succ]
    refine wpAnyH_take (i := 13) (oi := ⟨some 41, .binOp .eql 9 (.tmp 39) (.tmp 40) 9, _, _, _, _⟩) (v := undef) rfl (by kernel_rfl) (by kernel_rfl) (by kernel_rfl) (fun _ _ _ h => h) (Or.inr ⟨by rfl, rfl⟩) (by assumption) ?_
    simp only [Act.put, List.setIfInBounds_toArray, List.set_cons_zero, List.set_cons_succ]
    refine wpAnyH_take (i := 14) (oi := ⟨some 42, .pick (.tmp 37) (.const (.bool true)) (.tmp 41), _, _, _, _⟩) (v := (.bool true)) rfl (by kernel_rfl) (by kernel_rfl) (by kernel_rfl) (fun _ _ _ h => h) (Or.inl ⟨by rfl, fun W hW => by go_simp⟩) (by assumption) ?_
    simp only [Act.put, List.setIfInBounds_toArray, List.set_cons_zero, List.set_cons_succ]
    refine wpAnyH_take (i := 15) (oi := ⟨some 43, .pick (.tmp 34) (.tmp 42) (.const (.bool false)), _, _, _, _⟩) (v := (.bool true)) rfl (by kernel_rfl) (by kernel_rfl) (by kernel_rfl) (fun _ _ _ h => h) (Or.inl ⟨by rfl, fun W hW => by go_simp⟩) (by assumption) ?_
    simp only [Act.put, List.setIfInBounds_toArray, List.set_cons_zero, List.set_cons_succ]
    refine wpAnyH_take (i := 16) (oi := ⟨some 44, .move (.tmp 43), _, _, _, _⟩) (v := (.bool true)) rfl (by kernel_rfl) (by kernel_rfl) (by kernel_rfl) (fun _ _ _ h => h) (Or.inl ⟨by rfl, fun W hW => by go_simp⟩) (by assumption) ?_
    simp only [Act.put, List.setIfInBounds_toArray, List.set_cons_zero, List.set_cons_succ]
    refine wpAnyH_take (i := 17) (oi := ⟨some 45, .load 41 (.tmp 3), _, _, _, _⟩) (v := _) rfl (by kernel_rfl) (by kernel_rfl) (by kernel_rfl) (fun _ _ _ h => h) (yieldsIf_load_mid (by rfl) _ _ rfl _ _ rfl _ _ (fun W hW => hW.1) hu rfl hi1) (by assumption) ?_
    simp only [Act.put, List.setIfInBounds_toArray, List.set_cons_zero, List.set_cons_succ]
    refine wpAnyH_take (i := 18) (oi := ⟨some 46, .move (.tmp 11), _, _, _, _⟩) (v := (.string (strB (hexF l)))) rfl (by kernel_rfl) (by kernel_rfl) (by kernel_rfl) (fun _ _ _ h => h) (Or.inl ⟨by rfl, fun W hW => by go_simp⟩) (by assumption) ?_
    simp only [Act.put, List.setIfInBounds_toArray, List.set_cons_zero, List.set_cons_succ]
    refine wpAnyH_take (i := 19) (oi := ⟨some 47, .move (.tmp 2), _, _, _, _⟩) (v := (.int .u8 (n.toNat : Int))) rfl (by kernel_rfl) (by kernel_rfl) (by kernel_rfl) (fun _ _ _ h => h) (Or.inl ⟨by rfl, fun W hW => by go_simp⟩) (by assumption) ?_
    simp only [Act.put, List.setIfInBounds_toArray, List.set_cons_zero, List.set_cons_succ]
    refine wpAnyH_take (i := 20) (oi := ⟨some 48, .convert 5 3 (.tmp 47), _, _, _, _⟩) (v := (.int .i64 (n.toNat : Int))) rfl (by kernel_rfl) (by kernel_rfl) (by kernel_rfl) (fun _ _ _ h => h) (Or.inl ⟨by rfl, fun W hW => by go_simp⟩) (by assumption) ?_
    simp only [Act.put, List.setIfInBounds_toArray, List.set_cons_zero, List.set_cons_succ]
    refine wpAnyH_take (i := 21) (oi := ⟨some 49, .binOp .rem 3 (.tmp 48) (.const (.int .i64 64)) 3, _, _, _, _⟩) (v := (.int .i64 (r : Int))) rfl (by kernel_rfl) (by kernel_rfl) (by kernel_rfl) (fun _ _ _ h => h) (Or.inl ⟨by rfl, fun W hW => by go_simp⟩) (by assumption) ?_
    simp only [Act.put, List.setIfInBounds_toArray, List.set_cons_zero, List.set_cons_succ]
    refine wpAnyH_take (i := 22) (oi := ⟨some 50, .binOp .add 3 (.const (.int .i64 1)) (.tmp 49) 3, _, _, _, _⟩) (v := (.int .i64 (1 + (r : Int)))) rfl (by kernel_rfl) (by kernel_rfl) (by kernel_rfl) (fun _ _ _ h => h) (Or.inl ⟨by rfl, fun W hW => by go_simp⟩) (by assumption) ?_
    simp only [Act.put, List.setIfInBounds_toArray, List.set_cons_zero, List.set_cons_succ]
    refine wpAnyH_take (i := 23) (oi := ⟨some 51, .slice 9 (.tmp 46) none (some (.tmp 50)) none, _, _, _, _⟩) (v := (.string ((strB (hexF l)).extract 0 (1 + r)))) rfl (by kernel_rfl) (by kernel_rfl) (by kernel_rfl) (fun _ _ _ h => h) (Or.inl ⟨by rfl, fun W hW => by go_simp⟩) (by assumption) ?_
    simp only [Act.put, List.setIfInBounds_toArray, List.set_cons_zero, List.set_cons_succ]
    refine wpAnyH_ready (rs := [24]) (by kernel_rfl) (by simp) ?_
    refine AllReadyH.cons (o := ⟨some 52, .call { callee := .value (.func 25), args := #[.tmp 45, .tmp 51], argTypes := #[41, 9] }, _, _, _, _⟩) rfl (fun K hK => ?_) AllReadyH.nil
    go_simp
    go_wp2_with (go_at_call 25; refine (starts_yes l HL.out r HR.out _).mono ?_; rintro e w10 ⟨rfl, hb10⟩; have T10 := T8.next hb10; have H10 := T10.held; have b10 := b8.trans (hb10.mono b8.size))
    refine hK.out _ _ H10 (fun hHeld => ?_)
    clear hK K
    refine wpAnyH_take (i := 25) (oi := ⟨some 53, .pick (.tmp 44) (.tmp 52) (.const (.bool false)), _, _, _, _⟩) (v := (.bool true)) rfl (by kernel_rfl) (by kernel_rfl) (by kernel_rfl) (fun _ _ _ h => h) (Or.inl ⟨by rfl, fun W hW => by go_simp⟩) (by assumption) ?_
    simp only [Act.put, List.setIfInBounds_toArray, List.set_cons_zero, List.set_cons_succ]
    refine wpAnyH_take (i := 26) (oi := ⟨some 54, .move (.tmp 53), _, _, _, _⟩) (v := (.bool true)) rfl (by kernel_rfl) (by kernel_rfl) (by kernel_rfl) (fun _ _ _ h => h) (Or.inl ⟨by rfl, fun W hW => by go_simp⟩) (by assumption) ?_
    simp only [Act.put, List.setIfInBounds_toArray, List.set_cons_zero, List.set_cons_succ]
    refine wpAnyH_take (i := 27) (oi := ⟨some 55, .load 41 (.tmp 3), _, _, _, _⟩) (v := _) rfl (by kernel_rfl) (by kernel_rfl) (by kernel_rfl) (fun _ _ _ h => h) (yieldsIf_load_mid (by rfl) _ _ rfl _ _ rfl _ _ (fun W hW => hW.1) hu rfl hi1) (by assumption) ?_
    simp only [Act.put, List.setIfInBounds_toArray, List.set_cons_zero, List.set_cons_succ]
    refine wpAnyH_take (i := 28) (oi := ⟨some 56, .move (.tmp 11), _, _, _, _⟩) (v := (.string (strB (hexF l)))) rfl (by kernel_rfl) (by kernel_rfl) (by kernel_rfl) (fun _ _ _ h => h) (Or.inl ⟨by rfl, fun W hW => by go_simp⟩) (by assumption) ?_
    simp only [Act.put, List.setIfInBounds_toArray, List.set_cons_zero, List.set_cons_succ]
    refine wpAnyH_take (i := 29) (oi := ⟨some 57, .binOp .add 9 (.tmp 56) (.const (.string ⟨#[48]⟩)) 9, _, _, _, _⟩) (v := (.string (strB (hexF l ++ [48])))) rfl (by kernel_rfl) (by kernel_rfl) (by kernel_rfl) (fun _ _ _ h => h) (Or.inl ⟨by rfl, fun W hW => by go_simp⟩) (by assumption) ?_
    simp only [Act.put, List.setIfInBounds_toArray, List.set_cons_zero, List.set_cons_succ]
    refine wpAnyH_ready (rs := [30]) (by kernel_rfl) (by simp) ?_
    refine AllReadyH.cons (o := ⟨some 58, .call { callee := .value (.func 25), args := #[.tmp 55, .tmp 57], argTypes := #[41, 9] }, _, _, _, _⟩) rfl (fun K hK => ?_) AllReadyH.nil
    go_simp
    go_wp2_with (go_at_call 25; refine (starts_no l HL.out _).mono ?_; rintro e w11 ⟨rfl, hb11⟩; have T11 := T10.next hb11; have H11 := T11.held; have b11 := b10.trans (hb11.mono b10.size))
    refine hK.out _ _ H11 (fun hHeld => ?_)
    clear hK K
    refine wpAnyH_take (i := 31) (oi := ⟨some 59, .unOp .not 4 (.tmp 58), _, _, _, _⟩) (v := (.bool true)) rfl (by kernel_rfl) (by kernel_rfl) (by kernel_rfl) (fun _ _ _ h => h) (Or.inl ⟨by rfl, fun W hW => by go_simp⟩) (by assumption) ?_
    simp only [Act.put, List.setIfInBounds_toArray, List.set_cons_zero, List.set_cons_succ]
    refine wpAnyH_take (i := 32) (oi := ⟨some 60, .pick (.tmp 54) (.tmp 59) (.const (.bool false)), _, _, _, _⟩) (v := (.bool true)) rfl (by kernel_rfl) (by kernel_rfl) (by kernel_rfl) (fun _ _ _ h => h) (Or.inl ⟨by rfl, fun W hW => by go_simp⟩) (by assumption) ?_
    simp only [Act.put, List.setIfInBounds_toArray, List.set_cons_zero, List.set_cons_succ]
    refine wpAnyH_take (i := 33) (oi := ⟨some 61, .move (.tmp 60), _, _, _, _⟩) (v := (.bool true)) rfl (by kernel_rfl) (by kernel_rfl) (by kernel_rfl) (fun _ _ _ h => h) (Or.inl ⟨by rfl, fun W hW => by go_simp⟩) (by assumption) ?_
    simp only [Act.put, List.setIfInBounds_toArray, List.set_cons_zero, List.set_cons_succ]
    refine wpAnyH_ready (rs := [34]) (by kernel_rfl) (by simp) ?_
    refine AllReadyH.cons (o := ⟨some 62, .call { callee := .value (.func 11), args := #[], argTypes := #[] }, _, _, _, _⟩) rfl (fun K hK => ?_) AllReadyH.nil
    go_simp
    go_wp2_with (go_at_call 11; refine (awake_any _).mono ?_; rintro e w12 ⟨rfl, hb12⟩; have T12 := T11.next hb12; have H12 := T12.held; have b12 := b11.trans (hb12.mono b11.size))
    refine hK.out _ _ H12 (fun hHeld => ?_)
    clear hK K
    refine wpAnyH_take (i := 35) (oi := ⟨some 63, .pick (.tmp 61) (.tmp 62) (.const (.bool false)), _, _, _, _⟩) (v := (.bool true)) rfl (by kernel_rfl) (by kernel_rfl) (by kernel_rfl) (fun _ _ _ h => h) (Or.inl ⟨by rfl, fun W hW => by go_simp⟩) (by assumption) ?_
    simp only [Act.put, List.setIfInBounds_toArray, List.set_cons_zero, List.set_cons_succ]
    refine wpAnyH_take (i := 36) (oi := ⟨some 6, .assign (.tmp 63), _, _, _, _⟩) (v := (.bool true)) rfl (by kernel_rfl) (by kernel_rfl) (by kernel_rfl) (fun _ _ _ h => h) (Or.inl ⟨by rfl, fun W hW => by go_simp⟩) (by assumption) ?_
    simp only [Act.put, List.setIfInBounds_toArray, List.set_cons_zero, List.set_cons_succ]
    refine wpAnyH_done (by kernel_rfl) ?_ _
    go_wp2_with fail
    go_ret
    exact ⟨rfl, hB8.trans (b12.mono hB8.size)⟩
#print axioms lebDigits_any
end Go.Proofs.Ytkjgcgdfofheeaa
