/-
  The walk of a Hash's Sum.
-/
import Derived.Test.YtkjgcgdfofheeaaDoorShaSumM
namespace Go.Proofs.YtkjgcgdfofheeaaDoor
open Go.RowKit

set_option maxRecDepth 100000 in
set_option maxHeartbeats 1000000 in
theorem hsum_any (g : Nat) (l : List UInt8) (w : World) (hh : HashOf w g l) (ht : Tables w) (hg2 : 2 ≤ g) (hl : l.length ≤ 100000000000000) :
    Calls Tryd.prog 15 #[.pointer (some ⟨g, 0, none⟩)] w fun e w' => e = .returned (.agg (bytesV (sumF l)).toArray) ∧ Below w.heap.size w w' := by
  have hend : (endF l.length).length ≤ 128 := by
    have : zerosF l.length < 64 := by unfold zerosF; split <;> omega
    unfold endF lenB; simp; omega
  obtain ⟨x0, x1, x2, x3, x4, x5, x6, x7, hx⟩ : ∃ x0 x1 x2 x3 x4 x5 x6 x7, stF (padF l) ((padF l).length / 64) = [x0, x1, x2, x3, x4, x5, x6, x7] := by
    have := stF_length (padF l) ((padF l).length / 64)
    match stF (padF l) ((padF l).length / 64), this with
    | [x0, x1, x2, x3, x4, x5, x6, x7], _ => exact ⟨_, _, _, _, _, _, _, _, rfl⟩
  have HID := Lib.hid (id_form x0 x1 x2 x3 x4 x5 x6 x7)
  have HS := Lib.hid (show sumF l = idOf [x0, x1, x2, x3, x4, x5, x6, x7] by unfold sumF; rw [hx])
  have HX := Lib.hid hx
  have HEND := Lib.hid hend
  have HL := Lib.hid hl
  have HG := Lib.hid hg2
  obtain ⟨rs, hrs, htk, hrow⟩ := hh
  have HRS := Lib.hid hrs
  have HTK := Lib.hid htk
  obtain ⟨ws, hws⟩ : ∃ ws, ws = stF l (l.length / 64) := ⟨_, rfl⟩
  rw [← hws] at hrow
  have HWS := Lib.hid hws
  have hwl := Lib.hid (show ws.length = 8 by rw [hws, stF_length])
  obtain ⟨L, hL⟩ : ∃ L, L = l.length := ⟨_, rfl⟩
  rw [← hL] at hrow
  have HLL := Lib.hid hL
  have hlen := Lib.hid (hash_length ws rs L hwl.out hrs)
  clear hx hend hl hg2 hrs htk hws hL
  have hT := Lib.hid ht
  clear ht
  go_enter Tryd.func15, Tryd.ntmps15
  go_wp2_with (first
    | ((with_reducible show wpList _ _ _ (⟨some 2, _, _, _, _, _⟩ :: _) _ _); go_must (refine alloc_row rfl 24 (bytesV (List.replicate 32 0)) rfl zero_id ?_); intro w1 hr1 hbel1 hsz1; have HS1 := Lib.hid hsz1; clear hsz1; have hrow1 := hrow.below hbel1)
    | ((with_reducible show wpList _ _ _ (⟨some 12, _, _, _, _, _⟩ :: _) _ _); go_must (refine load_row rfl 48 (.tmp 11) rfl g 48 (hashV ws rs L) _ rfl hrow1 Tryd.underlying48 rfl (by rw [hlen.out]; exact info_hash) ?_))
    | ((with_reducible show wpList _ _ _ (⟨some 3, _, _, _, _, _⟩ :: _) _ _); go_must (refine alloc_row rfl 48 (hashV (zeroW 8) (List.replicate 64 0) 0) rfl zero_hash ?_); intro w2 hr2 hbel2 hsz2; have HS2 := Lib.hid hsz2; clear hsz2)
    | ((with_reducible show wpList _ _ _ (⟨none, .store 48 _ _, _, _, _, _⟩ :: _) _ _); go_must (refine store_row rfl 48 (.tmp 3) (.tmp 12) rfl w1.heap.size 48 (hashV (zeroW 8) (List.replicate 64 0) 0) (hashV ws rs L) rfl rfl hr2 (by rw [hlen.out]; rfl) (by rw [hlen.out]; exact info_hash) (hash_one _ _ _) ?_); intro w3 hr3 hgr3 hsz3; have HS3 := Lib.hid hsz3; clear hsz3; have hlt1 := hrow.lt; have hrow3 := (hrow1.below hbel2).grown hgr3 (by simp; have := HS1.out; omega); have hcl3 : w3.cell? ⟨g, 72, none⟩ = some (.int .i64 (L : Int)) := hrow3.cell 72 (hash72 ws rs L hwl.out HRS.out))
    | (go_at_call 20; go_must (refine (ending_any L _ (by have := HL.out; have := HLL.out; omega)).mono ?_); rintro e w4 ⟨a, n, c, rfl, hown4, hbel4⟩; have HBA := Lib.hid (Below.trans (hbel1.trans (hbel2.mono (by have := HS1.out; omega))) ((Below.refl _ _).mono (Nat.le_refl _))); have HBB := Lib.hid (((hbel1.trans (hbel2.mono (by have := HS1.out; omega))).grown hgr3 (by have := HS2.out; have := HS1.out; omega) (fun k hk => by simp at hk; have := HS1.out; omega)).trans (hbel4.mono (by have := HS3.out; have := HS2.out; have := HS1.out; omega))); have HH4 := Lib.hid (show HashOf w4 w1.heap.size l from ⟨rs, HRS.out, HTK.out, by rw [← HWS.out, ← HLL.out]; exact hr3.below hbel4⟩); have HNI := Lib.hid (own_notIn (g := w1.heap.size) hown4 (by have := HS3.out; have := HS2.out; omega)))
    | (go_at_call 13; go_must (refine (write_any w1.heap.size l a n c (endF L) w4 HH4.out (hT.out.below HBB.out) (by have := hT.out.round.lt; have := HS1.out; omega) hown4.isBytes HNI.out (by have := HEND.out; have := HL.out; rw [HLL.out]; omega)).mono ?_); rintro e w5 ⟨rfl, hH5, hgr5⟩; obtain ⟨rs5, h51, h52, hr5⟩ := hH5; rw [HLL.out] at hr5; rw [show l ++ endF l.length = padF l from rfl, HX.out] at hr5; clear h52; have HR51 := Lib.hid h51; clear h51)
    | ((with_reducible show wpList _ _ _ (⟨some 4, _, _, _, _, _⟩ :: _) _ _); go_must (refine alloc_row rfl 24 (bytesV (List.replicate 32 0)) rfl zero_id ?_); intro w6 hr6 hbel6 hsz6; have HS6 := Lib.hid hsz6; clear hsz6; have hrg6 := (hr5.below hbel6).range (l := []) (show hashV [x0, x1, x2, x3, x4, x5, x6, x7] rs5 _ = [] ++ (wordsV [x0, x1, x2, x3, x4, x5, x6, x7] ++ _) from rfl))
    | ((with_reducible show wpList _ _ _ (⟨some 20, _, _, _, _, _⟩ :: _) _ _); go_must (refine load_part rfl 41 (.tmp 19) rfl w1.heap.size 0 (wordsV [x0, x1, x2, x3, x4, x5, x6, x7]) _ rfl hrg6 Tryd.underlying41 rfl info_8w ?_)))
  have hz1 := HS1.out
  have hz2 := HS2.out
  have hz3 := HS3.out
  have hz6 := HS6.out
  have hl4 := hbel4.size
  have hl5 := hgr5.size
  have hB5 : Below w.heap.size w w5 := HBB.out.grown hgr5 (by omega) (fun k hk => by simp at hk; omega)
  have hB6 : Below w.heap.size w w6 := hB5.trans (hbel6.mono (by omega))
  have e1 : RowAt w6 w.heap.size 24 (bytesV (List.replicate 32 0)) := (((((hr1.below hbel2).grown hgr3 (by simp; omega)).below hbel4).grown hgr5 (by simp; omega)).below hbel6)
  have n1 : w.heap.size ≠ w5.heap.size := by omega
  have l1 : w.heap.size ≤ w5.heap.size := by omega
  have hc : ∀ j, j < 32 → w6.cell? ⟨w5.heap.size, j, none⟩ = some (.int .u8 0) := fun j hj => hr6.cell j (by
    unfold bytesV
    rw [List.getElem?_map, List.getElem?_replicate, if_pos hj]
    rfl)
  have hz : ∀ j, w6.frozen? ⟨w5.heap.size, j, none⟩ = false := fun j => hr6.free j
  have i0 : ∀ w, (Instr.index 41 (.agg (wordsV [x0, x1, x2, x3, x4, x5, x6, x7]).toArray) (.int .i64 0)).run Tryd.prog w = .ok (.int .u32 (x0.toNat : Int)) w := fun _ => by kernel_rfl
  have i1 : ∀ w, (Instr.index 41 (.agg (wordsV [x0, x1, x2, x3, x4, x5, x6, x7]).toArray) (.int .i64 1)).run Tryd.prog w = .ok (.int .u32 (x1.toNat : Int)) w := fun _ => by kernel_rfl
  have i2 : ∀ w, (Instr.index 41 (.agg (wordsV [x0, x1, x2, x3, x4, x5, x6, x7]).toArray) (.int .i64 2)).run Tryd.prog w = .ok (.int .u32 (x2.toNat : Int)) w := fun _ => by kernel_rfl
  have i3 : ∀ w, (Instr.index 41 (.agg (wordsV [x0, x1, x2, x3, x4, x5, x6, x7]).toArray) (.int .i64 3)).run Tryd.prog w = .ok (.int .u32 (x3.toNat : Int)) w := fun _ => by kernel_rfl
  have i4 : ∀ w, (Instr.index 41 (.agg (wordsV [x0, x1, x2, x3, x4, x5, x6, x7]).toArray) (.int .i64 4)).run Tryd.prog w = .ok (.int .u32 (x4.toNat : Int)) w := fun _ => by kernel_rfl
  have i5 : ∀ w, (Instr.index 41 (.agg (wordsV [x0, x1, x2, x3, x4, x5, x6, x7]).toArray) (.int .i64 5)).run Tryd.prog w = .ok (.int .u32 (x5.toNat : Int)) w := fun _ => by kernel_rfl
  have i6 : ∀ w, (Instr.index 41 (.agg (wordsV [x0, x1, x2, x3, x4, x5, x6, x7]).toArray) (.int .i64 6)).run Tryd.prog w = .ok (.int .u32 (x6.toNat : Int)) w := fun _ => by kernel_rfl
  have i7 : ∀ w, (Instr.index 41 (.agg (wordsV [x0, x1, x2, x3, x4, x5, x6, x7]).toArray) (.int .i64 7)).run Tryd.prog w = .ok (.int .u32 (x7.toNat : Int)) w := fun _ => by kernel_rfl
  clear hB5 hl4 hl5 hz1 hz2 hz3 hz6 hrow hrow1 hr1 hbel1 hr2 hbel2 hr3 hgr3 hrow3 hcl3 hown4 hbel4 hgr5 hr5 hbel6 hrg6 hlt1
  refine wp_loop_rounds 9 ?_
  iterate 8
    rw [rounds_succ]
    go_wp2
  have hR := set32 x0 x1 x2 x3 x4 x5 x6 x7 w5.heap.size w6 hr6
  have hO := other32 x0 x1 x2 x3 x4 x5 x6 x7 w5.heap.size w.heap.size _ _ n1 w6 e1
  have hB := below32 x0 x1 x2 x3 x4 x5 x6 x7 w5.heap.size w.heap.size w w6 hB6 l1
  clear hc hz hr6 e1 hB6
  generalize ((((((((((((((((((((((((((((((((w6.setCell ⟨w5.heap.size, 0, none⟩ (.int .u8 ((x0.toNat : Int) / 16777216 % 256))).setCell ⟨w5.heap.size, 1, none⟩ (.int .u8 ((x0.toNat : Int) / 65536 % 256))).setCell ⟨w5.heap.size, 2, none⟩ (.int .u8 ((x0.toNat : Int) / 256 % 256))).setCell ⟨w5.heap.size, 3, none⟩ (.int .u8 ((x0.toNat : Int) % 256))).setCell ⟨w5.heap.size, 4, none⟩ (.int .u8 ((x1.toNat : Int) / 16777216 % 256))).setCell ⟨w5.heap.size, 5, none⟩ (.int .u8 ((x1.toNat : Int) / 65536 % 256))).setCell ⟨w5.heap.size, 6, none⟩ (.int .u8 ((x1.toNat : Int) / 256 % 256))).setCell ⟨w5.heap.size, 7, none⟩ (.int .u8 ((x1.toNat : Int) % 256))).setCell ⟨w5.heap.size, 8, none⟩ (.int .u8 ((x2.toNat : Int) / 16777216 % 256))).setCell ⟨w5.heap.size, 9, none⟩ (.int .u8 ((x2.toNat : Int) / 65536 % 256))).setCell ⟨w5.heap.size, 10, none⟩ (.int .u8 ((x2.toNat : Int) / 256 % 256))).setCell ⟨w5.heap.size, 11, none⟩ (.int .u8 ((x2.toNat : Int) % 256))).setCell ⟨w5.heap.size, 12, none⟩ (.int .u8 ((x3.toNat : Int) / 16777216 % 256))).setCell ⟨w5.heap.size, 13, none⟩ (.int .u8 ((x3.toNat : Int) / 65536 % 256))).setCell ⟨w5.heap.size, 14, none⟩ (.int .u8 ((x3.toNat : Int) / 256 % 256))).setCell ⟨w5.heap.size, 15, none⟩ (.int .u8 ((x3.toNat : Int) % 256))).setCell ⟨w5.heap.size, 16, none⟩ (.int .u8 ((x4.toNat : Int) / 16777216 % 256))).setCell ⟨w5.heap.size, 17, none⟩ (.int .u8 ((x4.toNat : Int) / 65536 % 256))).setCell ⟨w5.heap.size, 18, none⟩ (.int .u8 ((x4.toNat : Int) / 256 % 256))).setCell ⟨w5.heap.size, 19, none⟩ (.int .u8 ((x4.toNat : Int) % 256))).setCell ⟨w5.heap.size, 20, none⟩ (.int .u8 ((x5.toNat : Int) / 16777216 % 256))).setCell ⟨w5.heap.size, 21, none⟩ (.int .u8 ((x5.toNat : Int) / 65536 % 256))).setCell ⟨w5.heap.size, 22, none⟩ (.int .u8 ((x5.toNat : Int) / 256 % 256))).setCell ⟨w5.heap.size, 23, none⟩ (.int .u8 ((x5.toNat : Int) % 256))).setCell ⟨w5.heap.size, 24, none⟩ (.int .u8 ((x6.toNat : Int) / 16777216 % 256))).setCell ⟨w5.heap.size, 25, none⟩ (.int .u8 ((x6.toNat : Int) / 65536 % 256))).setCell ⟨w5.heap.size, 26, none⟩ (.int .u8 ((x6.toNat : Int) / 256 % 256))).setCell ⟨w5.heap.size, 27, none⟩ (.int .u8 ((x6.toNat : Int) % 256))).setCell ⟨w5.heap.size, 28, none⟩ (.int .u8 ((x7.toNat : Int) / 16777216 % 256))).setCell ⟨w5.heap.size, 29, none⟩ (.int .u8 ((x7.toNat : Int) / 65536 % 256))).setCell ⟨w5.heap.size, 30, none⟩ (.int .u8 ((x7.toNat : Int) / 256 % 256))).setCell ⟨w5.heap.size, 31, none⟩ (.int .u8 ((x7.toNat : Int) % 256))) = W at hR hO hB ⊢
  rw [rounds_succ]
  go_wp2_with (first
    | ((with_reducible show wpList _ _ _ (⟨some 52, _, _, _, _, _⟩ :: _) _ _); go_must (refine load_row rfl 24 (.tmp 4) rfl w5.heap.size 24 (bytesV (idOf [x0, x1, x2, x3, x4, x5, x6, x7])) _ rfl hR Tryd.underlying24 rfl (by rw [HID.out]; exact info_id) ?_))
    | ((with_reducible show wpList _ _ _ (⟨none, .store 24 _ _, _, _, _, _⟩ :: _) _ _); go_must (refine store_row rfl 24 (.tmp 2) (.tmp 52) rfl w.heap.size 24 (bytesV (List.replicate 32 0)) (bytesV (idOf [x0, x1, x2, x3, x4, x5, x6, x7])) rfl rfl hO (by rw [HID.out]; rfl) (by rw [HID.out]; exact info_id) (bytesV_one _) ?_); intro w9 hr9 hgr9 hsz9))
  have hfin := hB.grown hgr9 hB.size (fun k hk => by simp at hk; omega)
  exact bodyPost_ret (results_row rfl _ _ w.heap.size 24 _ _ rfl hr9 Tryd.underlying24 rfl (by rw [HID.out]; exact info_id)) rfl ⟨by rw [HS.out], hfin⟩
#print axioms hsum_any
end Go.Proofs.YtkjgcgdfofheeaaDoor
