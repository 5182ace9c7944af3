/-
  The walk of awake: what the chapter's examples say, holds.
-/
import Derived.Test.YtcnhifkpflaibaaDoorLooseActs
import Derived.Test.YtcnhifkpflaibaaDoorLooseAll
import Derived.Test.YtcnhifkpflaibaaDoorShaRef
import Derived.Lib.SlBytesConst
namespace Go.Proofs.YtcnhifkpflaibaaDoor
open Go.RowKit Go.Maps

def idA : List UInt8 := sumF [97, 98, 99]
def idB : List UInt8 := 1 :: List.replicate 31 0
def LS : DS := (putL sumF (newS 1000) [97, 98, 99]).1
theorem pair_of {α β : Type} (x : α × β) (y : β) (h : x.2 = y) : x = (x.1, y) := by rw [← h]
theorem aw_put : putL sumF (newS 1000) [97, 98, 99] = (LS, idA, [], 0) := by
  unfold LS
  exact pair_of _ _ (by decide +kernel)
theorem aw_get : getL sumF LS idA = ([97, 98, 99], 0) := by decide +kernel
theorem aw_get2 : getL sumF LS idB = ([], 12) := by decide +kernel
theorem aw_names : listS LS = [fileN idA] := by decide +kernel
theorem aw_len : (listL sumF LS).length = 1 := by
  have h1 : thereL sumF LS (fileN idA) = some idA := by
    have hl : idA.length = 32 := sumF_length _
    have hd : (fileN idA).drop 2 = hexF idA := rfl
    obtain ⟨u1, u2⟩ := unhex_hex idA hl
    unfold thereL
    rw [hd, u1, u2, if_pos ⟨⟨hexF idA, rfl⟩, rfl, by rw [aw_get]⟩]
  unfold listL
  rw [aw_names]
  simp only [List.filterMap_cons, List.filterMap_nil, h1]
  unfold setF
  rw [(sortF_perm _).length_eq]
  rfl
theorem idA_len : idA.length = 32 := sumF_length _
theorem run_build_idB (w : World) : (Instr.build 35 #[(0, .int .u8 1)]).run Tryd.prog w = .ok (.agg (idCells idB)) w := by kernel_rfl
theorem build_idB {w : World} {ops : Array Oper} {rest : List Oper} {o : Oper} {a : Act} {Q : Exit → Act → World → Prop} (hgd : o.guard = none) (ho : o.op = .build 35 #[(0, .const (.int .u8 1))])
    (h : wpList Tryd.prog ops Q rest (a.put o.dst (.agg (idCells idB))) w) : wpList Tryd.prog ops Q (o :: rest) a w := by
  refine wpList_ok hgd ?_ h
  unfold execOp
  simp only [ho, List.map_toArray, List.map_cons, List.map_nil, Sem.run_bind, Sem.run_pure]
  exact congrArg (fun r => Result.andThen r _) (run_build_idB w)
theorem strB_abc : strB [97, 98, 99] = ⟨#[97, 98, 99]⟩ := rfl
theorem exec_eqlSelf {w : World} {o : Oper} {a : Act} (x y : Operand) (r : TypeId) (ho : o.op = .binOp .eql 35 x y r) (l : List UInt8) (hl : l.length = 32) (hx : a.eval x = .agg (idCells l)) (hy : a.eval y = .agg (idCells l)) :
    (execOp a.eval o).run Tryd.prog w = .ok (.value (.bool true)) w := by
  have h := exec_eqlId (w := w) x y r ho l l hl hl hx hy
  rwa [decide_eq_true rfl] at h
theorem rsum_box (w : World) : Calls Tryd.prog 32 #[.slice (some ⟨w.heap.size, 0, none⟩) 3 3] (w.alloc (.cells #[.int .u8 97, .int .u8 98, .int .u8 99] 5 (3, 4))) fun e w' => e = .returned (.agg (idCells idA)) ∧ Below (w.alloc (.cells #[.int .u8 97, .int .u8 98, .int .u8 99] 5 (3, 4))).heap.size (w.alloc (.cells #[.int .u8 97, .int .u8 98, .int .u8 99] 5 (3, 4))) w' := by
  unfold idA
  rw [← sum_id]
  exact rsum_any _ 3 3 [97, 98, 99] _ (bytes_new w [97, 98, 99] #[.int .u8 97, .int .u8 98, .int .u8 99] (3, 4) 3 rfl rfl (by omega)) (by simp)
section
variable {w W : World} {F : Nat → Prop} {db : Nat}
theorem safe_new {S : DS} (R : Run w W F db S) (l : List UInt8) (cs : Array Value) (fz : Nat × Nat) (n : Nat) (hn : l.length = n) (hcs : cs = (l.map B).toArray) (h63 : n ≤ 1000000) : Safe F (W.alloc (.cells cs 5 fz)) (some ⟨W.heap.size, 0, none⟩) n n l :=
  ⟨bytes_new W l cs fz n hn hcs h63, fun g off _ e => by cases e; exact ⟨new_not R, by simp⟩⟩
end
set_option maxRecDepth 100000 in
set_option maxHeartbeats 4000000 in
theorem awake_any9 (w : World) (hT : Tables w) : Calls Tryd.prog 15 #[] w fun e w' => e = .returned (.bool true) ∧ Below w.heap.size w w' := by
  have HT := Lib.hid hT
  have N1 := Lib.hid (aw_new (Below.refl w.heap.size w) 1000 1000 rfl (by omega))
  have P1 := Lib.hid (fun W F db (R : Run w W F db (newS 1000)) => putAll_any (safe_new R [97, 98, 99] #[.int .u8 97, .int .u8 98, .int .u8 99] (3, 4) 3 rfl rfl (by omega)) (R.below ((Below.refl W.heap.size W).alloc (Nat.le_refl _) _)) hT (few_new 1000) (by omega) aw_put)
  have F1 := Lib.hid (show Few LS 3 from by have := (put_ok (H := sumF) (inv_new (q := 1000) (by omega)) (few_new 1000) [97, 98, 99]).2; rw [aw_put] at this; exact this)
  have G1 := Lib.hid (fun W F db (R : Run w W F db LS) => get_any idA idA_len R hT aw_get)
  have G2 := Lib.hid (fun W F db (R : Run w W F db LS) => get_any idB rfl R hT aw_get2)
  have LA := Lib.hid (fun W F db (R : Run w W F db LS) => (show Calls Tryd.prog 18 #[Pt db] W fun e W' => ∃ a c, e = .returned (.slice a 1 c) ∧ Below W.heap.size W W' from (listAll_any R hT F1.out (by omega) rfl).mono fun e W' ⟨a, c, h1, _, _, h4⟩ => ⟨a, c, by rw [h1, aw_len], h4⟩))
  have kc := fun (w : World) (C : Array Value) (n c : Nat) => Lib.run_convert_bytes_const (P := Tryd.prog) w 23 5 C n c Tryd.underlying23 Tryd.underlying5
  clear hT
  go_enter Tryd.func15, Tryd.ntmps15
  go_wp2_with (first
    | (go_at_call 7; (with_reducible refine N1.out.mono ?_); rintro e w1 ⟨db, rfl, F1', hr⟩; have R1 := Lib.hid hr; clear hr)
    | (go_at_call 12; (with_reducible refine (P1.out _ _ _ R1.out).mono ?_); rintro e w2 ⟨a2, n2, c2, F2, rfl, hsf, hr2, hs2, hnw⟩; have R2 := Lib.hid hr2; clear hsf hr2 hs2 hnw)
    | ((with_reducible show wpList _ _ _ (⟨some 2, _, _, _, _, _⟩ :: _) _ _); refine alloc_id rfl rfl ?_; intro w3 hid3 hb3 hs3; have HB3 := Lib.hid hb3; have HS3 := Lib.hid hs3; clear hb3 hs3)
    | (refine store_id rfl (.tmp 2) (.tmp 15) rfl _ _ idA rfl rfl hid3 idA_len ?_; intro w4 hid4 hg4 hs4; have R4 := Lib.hid (R2.out.below (HB3.out.grown hg4 HB3.out.size (fun k hk => by cases hk; exact Nat.le_refl _))); have HI4 := Lib.hid hid4; clear hg4 hs4 hid3)
    | ((with_reducible show wpList _ _ _ (⟨some 20, _, _, _, _, _⟩ :: _) _ _); refine load_id rfl (.tmp 2) rfl _ _ rfl hid4 ?_)
    | ((with_reducible show wpList _ _ _ (⟨some 26, _, _, _, _, _⟩ :: _) _ _); refine build_idB rfl rfl ?_)
    | (go_at_call 14; (with_reducible refine (G2.out _ _ _ R5.out).mono ?_); rintro e w6 ⟨a6, n6, c6, rfl, hsf, hr6, hb6⟩; have R6 := Lib.hid hr6; have HB6 := Lib.hid hb6; have HSF6 := Lib.hid (HSF5.out.below hb6); have HI6 := Lib.hid (HI5.out.chg (X := fun _ => False) (Chg.of_below hb6) (fun e => e)); clear hsf hr6 hb6)
    | (go_at_call 14; (with_reducible refine (G1.out _ _ _ R4.out).mono ?_); rintro e w5 ⟨a5, n5, c5, rfl, hsf, hr5, hb5⟩; have R5 := Lib.hid hr5; have HSF5 := Lib.hid hsf; have HI5 := Lib.hid (HI4.out.chg (X := fun _ => False) (Chg.of_below hb5) (fun e => e)); clear hsf hr5 hb5))
  refine wp_region_held_drew (S := fun W => Below w6.heap.size w6 W) (by kernel_rfl) (Below.refl _ _).drew (fun hHeld => ?_)
  refine wpAnyH_take (i := 0) (oi := ⟨some 30, .move (.tmp 4), _, _, _, _⟩) (v := (.int .i64 0)) rfl (by kernel_rfl) (by kernel_rfl) (by kernel_rfl) (fun _ _ _ h => h) (Or.inl ⟨by rfl, fun W hW => by go_simp⟩) (by assumption) ?_
  simp only [Act.put, List.setIfInBounds_toArray, List.set_cons_zero, List.set_cons_succ]
  refine wpAnyH_take (i := 1) (oi := ⟨some 31, .binOp .eql 36 (.tmp 30) (.const (.int .i64 0)) 36, _, _, _, _⟩) (v := (.bool true)) rfl (by kernel_rfl) (by kernel_rfl) (by kernel_rfl) (fun _ _ _ h => h) (Or.inl ⟨by rfl, fun W hW => by go_simp⟩) (by assumption) ?_
  simp only [Act.put, List.setIfInBounds_toArray, List.set_cons_zero, List.set_cons_succ]
  refine wpAnyH_take (i := 2) (oi := ⟨some 32, .move (.tmp 31), _, _, _, _⟩) (v := (.bool true)) rfl (by kernel_rfl) (by kernel_rfl) (by kernel_rfl) (fun _ _ _ h => h) (Or.inl ⟨by rfl, fun W hW => by go_simp⟩) (by assumption) ?_
  simp only [Act.put, List.setIfInBounds_toArray, List.set_cons_zero, List.set_cons_succ]
  refine wpAnyH_take (i := 3) (oi := ⟨some 33, .move (.tmp 6), _, _, _, _⟩) (v := (.int .i64 0)) rfl (by kernel_rfl) (by kernel_rfl) (by kernel_rfl) (fun _ _ _ h => h) (Or.inl ⟨by rfl, fun W hW => by go_simp⟩) (by assumption) ?_
  simp only [Act.put, List.setIfInBounds_toArray, List.set_cons_zero, List.set_cons_succ]
  refine wpAnyH_take (i := 4) (oi := ⟨some 34, .binOp .eql 36 (.tmp 33) (.const (.int .i64 0)) 36, _, _, _, _⟩) (v := (.bool true)) rfl (by kernel_rfl) (by kernel_rfl) (by kernel_rfl) (fun _ _ _ h => h) (Or.inl ⟨by rfl, fun W hW => by go_simp⟩) (by assumption) ?_
  simp only [Act.put, List.setIfInBounds_toArray, List.set_cons_zero, List.set_cons_succ]
  refine wpAnyH_take (i := 5) (oi := ⟨some 35, .pick (.tmp 32) (.tmp 34) (.const (.bool false)), _, _, _, _⟩) (v := (.bool true)) rfl (by kernel_rfl) (by kernel_rfl) (by kernel_rfl) (fun _ _ _ h => h) (Or.inl ⟨by rfl, fun W hW => by go_simp⟩) (by assumption) ?_
  simp only [Act.put, List.setIfInBounds_toArray, List.set_cons_zero, List.set_cons_succ]
  refine wpAnyH_take (i := 6) (oi := ⟨some 36, .move (.tmp 35), _, _, _, _⟩) (v := (.bool true)) rfl (by kernel_rfl) (by kernel_rfl) (by kernel_rfl) (fun _ _ _ h => h) (Or.inl ⟨by rfl, fun W hW => by go_simp⟩) (by assumption) ?_
  simp only [Act.put, List.setIfInBounds_toArray, List.set_cons_zero, List.set_cons_succ]
  refine wpAnyH_take (i := 7) (oi := ⟨some 37, .move (.tmp 5), _, _, _, _⟩) (v := (.slice a5 n5 c5)) rfl (by kernel_rfl) (by kernel_rfl) (by kernel_rfl) (fun _ _ _ h => h) (Or.inl ⟨by rfl, fun W hW => by go_simp⟩) (by assumption) ?_
  simp only [Act.put, List.setIfInBounds_toArray, List.set_cons_zero, List.set_cons_succ]
  refine wpAnyH_take (i := 8) (oi := ⟨some 38, .convert 23 9 (.tmp 37), _, _, _, _⟩) (v := (.string ⟨#[97, 98, 99]⟩)) rfl (by kernel_rfl) (by kernel_rfl) (by kernel_rfl) (fun _ _ _ h => h) (Or.inl ⟨by rfl, fun W hW => by have hs := run_str (HSF6.out.below hW).1 9 Tryd.underlying9; rw [strB_abc] at hs; go_simp⟩) (by assumption) ?_
  simp only [Act.put, List.setIfInBounds_toArray, List.set_cons_zero, List.set_cons_succ]
  refine wpAnyH_take (i := 9) (oi := ⟨some 39, .binOp .eql 9 (.tmp 38) (.const (.string ⟨#[97, 98, 99]⟩)) 9, _, _, _, _⟩) (v := (.bool true)) rfl (by kernel_rfl) (by kernel_rfl) (by kernel_rfl) (fun _ _ _ h => h) (Or.inl ⟨by rfl, fun W hW => by go_simp⟩) (by assumption) ?_
  simp only [Act.put, List.setIfInBounds_toArray, List.set_cons_zero, List.set_cons_succ]
  refine wpAnyH_take (i := 10) (oi := ⟨some 40, .pick (.tmp 36) (.tmp 39) (.const (.bool false)), _, _, _, _⟩) (v := (.bool true)) rfl (by kernel_rfl) (by kernel_rfl) (by kernel_rfl) (fun _ _ _ h => h) (Or.inl ⟨by rfl, fun W hW => by go_simp⟩) (by assumption) ?_
  simp only [Act.put, List.setIfInBounds_toArray, List.set_cons_zero, List.set_cons_succ]
  refine wpAnyH_take (i := 11) (oi := ⟨some 41, .move (.tmp 40), _, _, _, _⟩) (v := (.bool true)) rfl (by kernel_rfl) (by kernel_rfl) (by kernel_rfl) (fun _ _ _ h => h) (Or.inl ⟨by rfl, fun W hW => by go_simp⟩) (by assumption) ?_
  simp only [Act.put, List.setIfInBounds_toArray, List.set_cons_zero, List.set_cons_succ]
  refine wpAnyH_take (i := 12) (oi := ⟨some 42, .move (.tmp 8), _, _, _, _⟩) (v := (.int .i64 12)) rfl (by kernel_rfl) (by kernel_rfl) (by kernel_rfl) (fun _ _ _ h => h) (Or.inl ⟨by rfl, fun W hW => by go_simp⟩) (by assumption) ?_
  simp only [Act.put, List.setIfInBounds_toArray, List.set_cons_zero, List.set_cons_succ]
  refine wpAnyH_take (i := 13) (oi := ⟨some 43, .binOp .eql 36 (.tmp 42) (.const (.int .i64 12)) 36, _, _, _, _⟩) (v := (.bool true)) rfl (by kernel_rfl) (by kernel_rfl) (by kernel_rfl) (fun _ _ _ h => h) (Or.inl ⟨by rfl, fun W hW => by go_simp⟩) (by assumption) ?_
  simp only [Act.put, List.setIfInBounds_toArray, List.set_cons_zero, List.set_cons_succ]
  refine wpAnyH_take (i := 14) (oi := ⟨some 44, .pick (.tmp 41) (.tmp 43) (.const (.bool false)), _, _, _, _⟩) (v := (.bool true)) rfl (by kernel_rfl) (by kernel_rfl) (by kernel_rfl) (fun _ _ _ h => h) (Or.inl ⟨by rfl, fun W hW => by go_simp⟩) (by assumption) ?_
  simp only [Act.put, List.setIfInBounds_toArray, List.set_cons_zero, List.set_cons_succ]
  refine wpAnyH_take (i := 15) (oi := ⟨some 45, .move (.tmp 44), _, _, _, _⟩) (v := (.bool true)) rfl (by kernel_rfl) (by kernel_rfl) (by kernel_rfl) (fun _ _ _ h => h) (Or.inl ⟨by rfl, fun W hW => by go_simp⟩) (by assumption) ?_
  simp only [Act.put, List.setIfInBounds_toArray, List.set_cons_zero, List.set_cons_succ]
  refine wpAnyH_take (i := 16) (oi := ⟨some 46, .move (.tmp 1), _, _, _, _⟩) (v := (Pt db)) rfl (by kernel_rfl) (by kernel_rfl) (by kernel_rfl) (fun _ _ _ h => h) (Or.inl ⟨by rfl, fun W hW => by go_simp⟩) (by assumption) ?_
  simp only [Act.put, List.setIfInBounds_toArray, List.set_cons_zero, List.set_cons_succ]
  refine wpAnyH_ready (rs := [17]) (by kernel_rfl) (by simp) ?_
  refine AllReadyH.cons (o := ⟨some 47, .call { callee := .value (.func 18), args := #[(.tmp 46)], argTypes := #[26] }, _, _, _, _⟩) rfl (fun K hK => ?_) AllReadyH.nil
  go_simp
  go_wp2_with (go_at_call 18; (refine (LA.out w6.drew _ _ (R6.out.below (Below.refl w6.heap.size w6).drew)).mono ?_); rintro e w7 ⟨a7, c7, rfl, hb7⟩; have HB7 : Hid (Below w6.heap.size w6 w7) := Lib.hid ((Below.refl w6.heap.size w6).drew.trans hb7); clear hb7)
  refine hK.out _ _ HB7.out (fun hHeld => ?_)
  clear hK K
  refine wpAnyH_take (i := 18) (oi := ⟨some 48, .call { callee := .builtin .len, args := #[(.tmp 47)], argTypes := #[45] }, _, _, _, _⟩) (v := (.int .i64 1)) rfl (by kernel_rfl) (by kernel_rfl) (by kernel_rfl) (fun _ _ _ h => h) (Or.inl ⟨by rfl, fun W hW => by go_simp⟩) (by assumption) ?_
  simp only [Act.put, List.setIfInBounds_toArray, List.set_cons_zero, List.set_cons_succ]
  refine wpAnyH_take (i := 19) (oi := ⟨some 49, .binOp .eql 3 (.tmp 48) (.const (.int .i64 1)) 3, _, _, _, _⟩) (v := (.bool true)) rfl (by kernel_rfl) (by kernel_rfl) (by kernel_rfl) (fun _ _ _ h => h) (Or.inl ⟨by rfl, fun W hW => by go_simp⟩) (by assumption) ?_
  simp only [Act.put, List.setIfInBounds_toArray, List.set_cons_zero, List.set_cons_succ]
  refine wpAnyH_take (i := 20) (oi := ⟨some 50, .pick (.tmp 45) (.tmp 49) (.const (.bool false)), _, _, _, _⟩) (v := (.bool true)) rfl (by kernel_rfl) (by kernel_rfl) (by kernel_rfl) (fun _ _ _ h => h) (Or.inl ⟨by rfl, fun W hW => by go_simp⟩) (by assumption) ?_
  simp only [Act.put, List.setIfInBounds_toArray, List.set_cons_zero, List.set_cons_succ]
  refine wpAnyH_take (i := 21) (oi := ⟨some 51, .move (.tmp 50), _, _, _, _⟩) (v := (.bool true)) rfl (by kernel_rfl) (by kernel_rfl) (by kernel_rfl) (fun _ _ _ h => h) (Or.inl ⟨by rfl, fun W hW => by go_simp⟩) (by assumption) ?_
  simp only [Act.put, List.setIfInBounds_toArray, List.set_cons_zero, List.set_cons_succ]
  refine wpAnyH_take (i := 22) (oi := ⟨some 52, .load 35 (.tmp 2), _, _, _, _⟩) (v := (.agg (idCells idA))) rfl (by kernel_rfl) (by kernel_rfl) (by kernel_rfl) (fun _ _ _ h => h) (Or.inl ⟨by rfl, fun W hW => exec_loadId _ rfl _ _ _ idA_len rfl (HI6.out.chg (X := fun _ => False) (Chg.of_below hW) (fun e => e)).range⟩) (by assumption) ?_
  simp only [Act.put, List.setIfInBounds_toArray, List.set_cons_zero, List.set_cons_succ]
  refine wpAnyH_ready (rs := [23]) (by kernel_rfl) (by simp) ?_
  refine AllReadyH.cons (o := ⟨some 53, .buildSlice 23 3 #[(0, (.const (.int .u8 97))), (1, (.const (.int .u8 98))), (2, (.const (.int .u8 99)))], _, _, _, _⟩) rfl (fun K hK => ?_) AllReadyH.nil
  go_simp
  have HB8 := Lib.hid (HB7.out.alloc HB7.out.size (.cells #[.int .u8 97, .int .u8 98, .int .u8 99] 5))
  refine hK.out _ _ HB8.out (fun hHeld => ?_)
  clear hK K
  refine wpAnyH_ready (rs := [24]) (by kernel_rfl) (by simp) ?_
  refine AllReadyH.cons (o := ⟨some 54, .convert 23 23 (.tmp 53), _, _, _, _⟩) rfl (fun K hK => ?_) AllReadyH.nil
  go_simp
  have HB10 := Lib.hid (HB7.out.alloc HB7.out.size (.cells #[.int .u8 97, .int .u8 98, .int .u8 99] 5 (3, 4)))
  refine hK.out _ _ HB10.out (fun hHeld => ?_)
  clear hK K
  refine wpAnyH_ready (rs := [25]) (by kernel_rfl) (by simp) ?_
  refine AllReadyH.cons (o := ⟨some 55, .call { callee := .value (.func 32), args := #[(.tmp 54)], argTypes := #[23] }, _, _, _, _⟩) rfl (fun K hK => ?_) AllReadyH.nil
  go_simp
  go_wp2_with (go_at_call 32; (refine (rsum_box w7).mono ?_); rintro e w9 ⟨rfl, hb9⟩; have HB9 : Hid (Below w6.heap.size w6 w9) := Lib.hid (HB10.out.trans (hb9.mono HB10.out.size)); clear hb9)
  refine hK.out _ _ HB9.out (fun hHeld => ?_)
  clear hK K
  refine wpAnyH_take (i := 26) (oi := ⟨some 56, .binOp .eql 35 (.tmp 52) (.tmp 55) 35, _, _, _, _⟩) (v := (.bool true)) rfl (by kernel_rfl) (by kernel_rfl) (by kernel_rfl) (fun _ _ _ h => h) (Or.inl ⟨by rfl, fun W hW => exec_eqlSelf _ _ _ rfl idA idA_len rfl rfl⟩) (by assumption) ?_
  simp only [Act.put, List.setIfInBounds_toArray, List.set_cons_zero, List.set_cons_succ]
  refine wpAnyH_take (i := 27) (oi := ⟨some 57, .pick (.tmp 51) (.tmp 56) (.const (.bool false)), _, _, _, _⟩) (v := (.bool true)) rfl (by kernel_rfl) (by kernel_rfl) (by kernel_rfl) (fun _ _ _ h => h) (Or.inl ⟨by rfl, fun W hW => by go_simp⟩) (by assumption) ?_
  simp only [Act.put, List.setIfInBounds_toArray, List.set_cons_zero, List.set_cons_succ]
  refine wpAnyH_take (i := 28) (oi := ⟨some 0, .assign (.tmp 57), _, _, _, _⟩) (v := (.bool true)) rfl (by kernel_rfl) (by kernel_rfl) (by kernel_rfl) (fun _ _ _ h => h) (Or.inl ⟨by rfl, fun W hW => by go_simp⟩) (by assumption) ?_
  simp only [Act.put, List.setIfInBounds_toArray, List.set_cons_zero]
  refine wpAnyH_done (by kernel_rfl) ?_ _
  go_wp2
  go_ret
  exact ⟨rfl, R6.out.2.2.trans (HB9.out.mono R6.out.2.2.size)⟩
#print axioms awake_any9
end Go.Proofs.YtcnhifkpflaibaaDoor
