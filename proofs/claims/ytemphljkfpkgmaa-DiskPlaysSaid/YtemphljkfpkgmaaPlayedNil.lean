/-
  An act played on both disks, where neither is there.
-/
import Derived.Test.YtemphljkfpkgmaaPlayHalf
import Derived.Test.YtemphljkfpkgmaaRefNil
import Derived.Deep.CutRange
namespace Go.Proofs.Ytemphljkfpkgmaa
open Go.RowKit Go.Maps

/-- The boxes of a play. -/
structure Bx (W0 W : World) (gR gX gZ : Nat) (V : RVal) (S : DS) (x : List Value) : Prop where
  r : RBox W gR V S
  x : RowAt W gX 37 x
  z : RowAt W gZ 31 zeroD
  rz : gR ≠ gZ
  low : W0.heap.size ≤ gR ∧ W0.heap.size ≤ gZ
  below : Below W0.heap.size W0 W
section
variable {W0 W W2 : World} {gR gX gZ : Nat} {V : RVal} {S : DS} {x : List Value}
theorem Bx.on (h : Bx W0 W gR gX gZ V S x) (hb : Below W.heap.size W W2) : Bx W0 W2 gR gX gZ V S x := ⟨RBox.below h.r hb, RowAt.below h.x hb, RowAt.below h.z hb, h.rz, h.low, h.below.trans (hb.mono h.below.size)⟩
theorem Bx.seen (H : Bx W0 W gR gX gZ V S x) : W.cell? ⟨gX, 0, none⟩ = x[0]? ∧ W.cell? ⟨gX, 1, none⟩ = x[1]? ∧ W.cell? ⟨gX, 2, none⟩ = x[2]? ∧ W.cell? ⟨gX, 3, none⟩ = x[3]? ∧ W.cell? ⟨gX, 4, none⟩ = x[4]? ∧ W.cell? ⟨gX, 5, none⟩ = x[5]? := by
  refine ⟨?_, ?_, ?_, ?_, ?_, ?_⟩ <;> rw [cell_of_row W gX _ x.toArray _ (0, 0) H.x] <;> simp
theorem refAppend_ns (s : ByteArray) (a : Option Addr) (n c : Nat) (w : World) (hm : V.made = false) : Calls Try.prog 17 #[.agg (refC V S), .string s, .slice a n c] w (NilEnd w V S) := by
  have h := refAppend_nil V S s.data.toList a n c w hm
  rwa [strB_self] at h
theorem refSync_ns (s : ByteArray) (w : World) (hm : V.made = false) : Calls Try.prog 19 #[.agg (refC V S), .string s] w (NilEnd w V S) := by
  have h := refSync_nil V S s.data.toList w hm
  rwa [strB_self] at h
theorem refTurn_ns (s t : ByteArray) (w : World) (hm : V.made = false) : Calls Try.prog 21 #[.agg (refC V S), .string s, .string t, .bool false] w (NilEnd w V S) := by
  have h := refTurn_nil V S s.data.toList t.data.toList w hm
  rwa [strB_self, strB_self] at h
theorem refDrop_ns (s : ByteArray) (w : World) (hm : V.made = false) : Calls Try.prog 21 #[.agg (refC V S), .string s, .string ⟨#[]⟩, .bool true] w (NilEnd w V S) := by
  have h := refDrop_nil V S s.data.toList [] w hm
  rw [strB_self] at h
  exact h
theorem refRead_ns (s : ByteArray) (w : World) (hm : V.made = false) : Calls Try.prog 24 #[.agg (refC V S), .string s] w fun e w' => e = .returned (.tuple #[.slice none 0 0, .int .i64 1]) ∧ Below w.heap.size w w' := by
  have h := refRead_nil V S s.data.toList w hm
  rwa [strB_self] at h
end
def PlayNil (W : World) (V : RVal) (S : DS) (e : Ending) (W' : World) : Prop := e = .returned (.tuple #[.agg (refC V S), .bool true]) ∧ Below W.heap.size W W'
set_option maxRecDepth 100000 in
set_option maxHeartbeats 4000000 in
theorem played_nil (x : ActV) (w W : World) (V : RVal) (S : DS) (hmd : V.made = false) (hb0 : Below w.heap.size w W) (hx : ActIn w x) (hm : x.m ≤ 300) (hm5 : x.m5 ≤ 100) :
    Calls Try.prog 7 #[.pointer none, .agg (refC V S), .agg x.cells] W (PlayNil W V S) := by
  obtain ⟨z, s, t, a, m, c, b, n, a5, m5, c5, fs⟩ := x
  simp only at hm hm5
  have hrg := rem_range z
  have HBY := Lib.hid (hx.bytes.below hb0)
  have HFT := Lib.hid (hx.fates.below hb0)
  simp only at HBY HFT
  have HM := Lib.hid hm
  have HM5 := Lib.hid hm5
  have HMD := Lib.hid hmd
  clear hx hm hm5 hmd hb0
  have hq : ((wrap64 (z.tmod 7 + 7)).tmod 7 = 0 ∨ (wrap64 (z.tmod 7 + 7)).tmod 7 = 1 ∨ (wrap64 (z.tmod 7 + 7)).tmod 7 = 2 ∨ (wrap64 (z.tmod 7 + 7)).tmod 7 = 3 ∨ (wrap64 (z.tmod 7 + 7)).tmod 7 = 4 ∨ (wrap64 (z.tmod 7 + 7)).tmod 7 = 5 ∨ (wrap64 (z.tmod 7 + 7)).tmod 7 = 6) := by omega
  clear hrg
  rcases hq with hq | hq | hq | hq | hq | hq | hq
  · go_enter Try.func7, Try.ntmps7
    go_wp2_with (first
      | ((with_reducible show wpList _ _ _ (⟨some 4, _, _, _, _, _⟩ :: _) _ _); refine box_row rfl 31 (.tmp 1) (refL V S) rfl rfl ?_; intro w1 hr1 hb1 hs1; have HB1 := Lib.hid hb1; have HR1 := Lib.hid (show RBox w1 W.heap.size V S from hr1); have HS1 := Lib.hid hs1; clear hb1 hr1 hs1)
      | ((with_reducible show wpList _ _ _ (⟨some 5, _, _, _, _, _⟩ :: _) _ _); refine box_row rfl 37 (.tmp 2) [.int .i64 z, .string s, .string t, .slice a m c, .int .i64 n, .slice a5 m5 c5] rfl rfl ?_; intro w2 hr2 hb2 hs2; have HB2 := Lib.hid (HB1.out.trans (hb2.mono HB1.out.size)); have HR2 := Lib.hid (RBox.below HR1.out hb2); have HX := Lib.hid hr2; have HS2 := Lib.hid hs2; clear hb2 hr2 hs2)
      | ((with_reducible show wpList _ _ _ (⟨some 6, _, _, _, _, _⟩ :: _) _ _); refine alloc_row rfl 31 zeroD rfl zero_disk ?_; intro w3 hr3 hb3 hs3
         have HB3 := Lib.hid (HB2.out.trans (hb3.mono HB2.out.size))
         have H3 := Lib.hid (show Bx W w3 W.heap.size w1.heap.size w2.heap.size V S [.int .i64 z, .string s, .string t, .slice a m c, .int .i64 n, .slice a5 m5 c5] from ⟨RBox.below HR2.out hb3, RowAt.below HX.out hb3, hr3, by have := HS1.out; have := HS2.out; omega, by have := HS1.out; have := HS2.out; omega, HB3.out⟩)
         obtain ⟨k0, k1, k2, k3, k4, k5⟩ := H3.out.seen
         dsimp only [List.getElem?_cons_zero, List.getElem?_cons_succ] at k0 k1 k2 k3 k4 k5
         have HA := Lib.hid (H3.out.on ((Below.refl _ _).alloc (Nat.le_refl _) (.cells #[] 5)))
         obtain ⟨m0, m1, m2, m3, m4, m5'⟩ := HA.out.seen
         dsimp only [List.getElem?_cons_zero, List.getElem?_cons_succ] at m0 m1 m2 m3 m4 m5'
         clear hr3 hb3 hs3))
    go_cut [9] from 21 to 29 (fun v W' => v = Value.int .i64 1 ∧ Hid (Bx W W' W.heap.size w1.heap.size w2.heap.size V S [.int .i64 z, .string s, .string t, .slice a m c, .int .i64 n, .slice a5 m5 c5]))
    case first =>
      go_region_law (first
        | ((refine wp_appG byteK Try.underlying35 byteInfo rfl _ _ rfl w3.heap.size (.slice (some ⟨w3.heap.size, 0, none⟩) 0 0) [] rfl (OwnG.lit rfl _ rfl) a m c b rfl (at_of_bytes (HBY.out.below (HB3.out.trans (((Below.refl _ _).drew.alloc (Nat.le_refl _) _).mono HB3.out.size)))) (by have := HM.out; simp; omega) (by simp) m (by simp) ?_); intro aC cC wC _ hgC
           have HBC := Lib.hid (show Below w3.heap.size w3 wC from ((Below.refl _ _).drew.alloc (Nat.le_refl _) (.cells #[] 5)).grown hgC (by simp) (fun k hk => by cases hk; exact Nat.le_refl _))
           have HC := Lib.hid (H3.out.on HBC.out)
           obtain ⟨j0, j1, j2, j3, j4, j5⟩ := HC.out.seen
           dsimp only [List.getElem?_cons_zero, List.getElem?_cons_succ] at j0 j1 j2 j3 j4 j5
           clear hgC)
        | (go_simp; go_at_call 16; (with_reducible refine (nil_append s aC m cC _).mono ?_); rintro e4 w4 ⟨rfl, hb4⟩
           have H4 := Lib.hid (HC.out.on hb4)
           clear j0 j1 j2 j3 j4 j5 hb4))
      all_goals (
        go_wp2
        go_meet
        case rel => exact ⟨rfl, H4⟩)
    case rest =>
      obtain ⟨rfl, H4⟩ := hcut
      obtain ⟨k0, k1, k2, k3, k4, k5⟩ := H4.out.seen
      dsimp only [List.getElem?_cons_zero, List.getElem?_cons_succ] at k0 k1 k2 k3 k4 k5
      clear m0 m1 m2 m3 m4 m5'
      go_wp2_with (first
        | (refine load_row rfl 31 _ rfl W.heap.size _ (refL V S) _ rfl H4.out.r Try.underlying31 rfl infoD ?_)
        | (go_at_call 17; (with_reducible refine (refAppend_ns s a m c _ HMD.out).mono ?_); rintro e5 w5 ⟨rfl, hb5⟩
           have H5 := Lib.hid (H4.out.on hb5)
           clear k0 k1 k2 k3 k4 k5 hb5)
        | ((with_reducible show wpList _ _ _ (⟨none, .store _ (.tmp 4) _, _, _, _, _⟩ :: _) _ _); refine store_row rfl 31 _ _ rfl W.heap.size _ (refL V S) (refL V S) rfl rfl H5.out.r rfl infoD (refL_one _ _) ?_; intro w6 hr6 hg6 hs6
           have R6 := Lib.hid (show RBox w6 W.heap.size V S from hr6)
           have Z6 := Lib.hid (H5.out.z.grown hg6 (fun e => H5.out.rz (Option.some.inj e).symm))
           have B6 := Lib.hid (H5.out.below.grown hg6 H5.out.below.size (fun k hk => by cases hk; exact H5.out.low.1))
           clear hr6 hg6 hs6)
        | (refine load_row rfl 31 _ rfl W.heap.size _ (refL V S) _ rfl R6.out Try.underlying31 rfl infoD ?_)
        | (refine store_row rfl 31 _ _ rfl w2.heap.size _ zeroD (refL V S) rfl rfl Z6.out rfl infoD (refL_one _ _) ?_; intro w7 hr7 hg7 _; have HR7 := Lib.hid hr7; have B7 := Lib.hid (B6.out.grown hg7 B6.out.size (fun k hk => by cases hk; exact H4.out.low.2)); clear hr7 hg7))
      exact bodyPost_ret (results_ref2 rfl _ _ w2.heap.size V S rfl HR7.out) rfl ⟨rfl, B7.out⟩
  · go_enter Try.func7, Try.ntmps7
    go_wp2_with (first
      | ((with_reducible show wpList _ _ _ (⟨some 4, _, _, _, _, _⟩ :: _) _ _); refine box_row rfl 31 (.tmp 1) (refL V S) rfl rfl ?_; intro w1 hr1 hb1 hs1; have HB1 := Lib.hid hb1; have HR1 := Lib.hid (show RBox w1 W.heap.size V S from hr1); have HS1 := Lib.hid hs1; clear hb1 hr1 hs1)
      | ((with_reducible show wpList _ _ _ (⟨some 5, _, _, _, _, _⟩ :: _) _ _); refine box_row rfl 37 (.tmp 2) [.int .i64 z, .string s, .string t, .slice a m c, .int .i64 n, .slice a5 m5 c5] rfl rfl ?_; intro w2 hr2 hb2 hs2; have HB2 := Lib.hid (HB1.out.trans (hb2.mono HB1.out.size)); have HR2 := Lib.hid (RBox.below HR1.out hb2); have HX := Lib.hid hr2; have HS2 := Lib.hid hs2; clear hb2 hr2 hs2)
      | ((with_reducible show wpList _ _ _ (⟨some 6, _, _, _, _, _⟩ :: _) _ _); refine alloc_row rfl 31 zeroD rfl zero_disk ?_; intro w3 hr3 hb3 hs3
         have HB3 := Lib.hid (HB2.out.trans (hb3.mono HB2.out.size))
         have H3 := Lib.hid (show Bx W w3 W.heap.size w1.heap.size w2.heap.size V S [.int .i64 z, .string s, .string t, .slice a m c, .int .i64 n, .slice a5 m5 c5] from ⟨RBox.below HR2.out hb3, RowAt.below HX.out hb3, hr3, by have := HS1.out; have := HS2.out; omega, by have := HS1.out; have := HS2.out; omega, HB3.out⟩)
         obtain ⟨k0, k1, k2, k3, k4, k5⟩ := H3.out.seen
         dsimp only [List.getElem?_cons_zero, List.getElem?_cons_succ] at k0 k1 k2 k3 k4 k5
         have HA := Lib.hid (H3.out.on ((Below.refl _ _).alloc (Nat.le_refl _) (.cells #[] 5)))
         obtain ⟨m0, m1, m2, m3, m4, m5'⟩ := HA.out.seen
         dsimp only [List.getElem?_cons_zero, List.getElem?_cons_succ] at m0 m1 m2 m3 m4 m5'
         clear hr3 hb3 hs3)
      | (go_at_call 18; (with_reducible refine (nil_sync s _).mono ?_); rintro e4 w4 ⟨rfl, hb4⟩
         have H4 := Lib.hid (H3.out.on hb4)
         clear hb4
         clear k0 k1 k2 k3 k4 k5 m0 m1 m2 m3 m4 m5'
         obtain ⟨k0, k1, k2, k3, k4, k5⟩ := H4.out.seen
         dsimp only [List.getElem?_cons_zero, List.getElem?_cons_succ] at k0 k1 k2 k3 k4 k5)
      | (refine load_row rfl 31 _ rfl W.heap.size _ (refL V S) _ rfl H4.out.r Try.underlying31 rfl infoD ?_)
      | (go_at_call 19; (with_reducible refine (refSync_ns s _ HMD.out).mono ?_); rintro e5 w5 ⟨rfl, hb5⟩
         have H5 := Lib.hid (H4.out.on hb5)
         clear k0 k1 k2 k3 k4 k5 hb5)
      | ((with_reducible show wpList _ _ _ (⟨none, .store _ (.tmp 4) _, _, _, _, _⟩ :: _) _ _); refine store_row rfl 31 _ _ rfl W.heap.size _ (refL V S) (refL V S) rfl rfl H5.out.r rfl infoD (refL_one _ _) ?_; intro w6 hr6 hg6 hs6
         have R6 := Lib.hid (show RBox w6 W.heap.size V S from hr6)
         have Z6 := Lib.hid (H5.out.z.grown hg6 (fun e => H5.out.rz (Option.some.inj e).symm))
         have B6 := Lib.hid (H5.out.below.grown hg6 H5.out.below.size (fun k hk => by cases hk; exact H5.out.low.1))
         clear hr6 hg6 hs6)
      | (refine load_row rfl 31 _ rfl W.heap.size _ (refL V S) _ rfl R6.out Try.underlying31 rfl infoD ?_)
      | (refine store_row rfl 31 _ _ rfl w2.heap.size _ zeroD (refL V S) rfl rfl Z6.out rfl infoD (refL_one _ _) ?_; intro w7 hr7 hg7 _; have HR7 := Lib.hid hr7; have B7 := Lib.hid (B6.out.grown hg7 B6.out.size (fun k hk => by cases hk; exact H4.out.low.2)); clear hr7 hg7))
    exact bodyPost_ret (results_ref2 rfl _ _ w2.heap.size V S rfl HR7.out) rfl ⟨rfl, B7.out⟩
  · go_enter Try.func7, Try.ntmps7
    go_wp2_with (first
      | ((with_reducible show wpList _ _ _ (⟨some 4, _, _, _, _, _⟩ :: _) _ _); refine box_row rfl 31 (.tmp 1) (refL V S) rfl rfl ?_; intro w1 hr1 hb1 hs1; have HB1 := Lib.hid hb1; have HR1 := Lib.hid (show RBox w1 W.heap.size V S from hr1); have HS1 := Lib.hid hs1; clear hb1 hr1 hs1)
      | ((with_reducible show wpList _ _ _ (⟨some 5, _, _, _, _, _⟩ :: _) _ _); refine box_row rfl 37 (.tmp 2) [.int .i64 z, .string s, .string t, .slice a m c, .int .i64 n, .slice a5 m5 c5] rfl rfl ?_; intro w2 hr2 hb2 hs2; have HB2 := Lib.hid (HB1.out.trans (hb2.mono HB1.out.size)); have HR2 := Lib.hid (RBox.below HR1.out hb2); have HX := Lib.hid hr2; have HS2 := Lib.hid hs2; clear hb2 hr2 hs2)
      | ((with_reducible show wpList _ _ _ (⟨some 6, _, _, _, _, _⟩ :: _) _ _); refine alloc_row rfl 31 zeroD rfl zero_disk ?_; intro w3 hr3 hb3 hs3
         have HB3 := Lib.hid (HB2.out.trans (hb3.mono HB2.out.size))
         have H3 := Lib.hid (show Bx W w3 W.heap.size w1.heap.size w2.heap.size V S [.int .i64 z, .string s, .string t, .slice a m c, .int .i64 n, .slice a5 m5 c5] from ⟨RBox.below HR2.out hb3, RowAt.below HX.out hb3, hr3, by have := HS1.out; have := HS2.out; omega, by have := HS1.out; have := HS2.out; omega, HB3.out⟩)
         obtain ⟨k0, k1, k2, k3, k4, k5⟩ := H3.out.seen
         dsimp only [List.getElem?_cons_zero, List.getElem?_cons_succ] at k0 k1 k2 k3 k4 k5
         have HA := Lib.hid (H3.out.on ((Below.refl _ _).alloc (Nat.le_refl _) (.cells #[] 5)))
         obtain ⟨m0, m1, m2, m3, m4, m5'⟩ := HA.out.seen
         dsimp only [List.getElem?_cons_zero, List.getElem?_cons_succ] at m0 m1 m2 m3 m4 m5'
         clear hr3 hb3 hs3)
      | (go_at_call 20; (with_reducible refine (nil_rename s t _).mono ?_); rintro e4 w4 ⟨rfl, hb4⟩
         have H4 := Lib.hid (H3.out.on hb4)
         clear hb4
         clear k0 k1 k2 k3 k4 k5 m0 m1 m2 m3 m4 m5'
         obtain ⟨k0, k1, k2, k3, k4, k5⟩ := H4.out.seen
         dsimp only [List.getElem?_cons_zero, List.getElem?_cons_succ] at k0 k1 k2 k3 k4 k5)
      | (refine load_row rfl 31 _ rfl W.heap.size _ (refL V S) _ rfl H4.out.r Try.underlying31 rfl infoD ?_)
      | (go_at_call 21; (with_reducible refine (refTurn_ns s t _ HMD.out).mono ?_); rintro e5 w5 ⟨rfl, hb5⟩
         have H5 := Lib.hid (H4.out.on hb5)
         clear k0 k1 k2 k3 k4 k5 hb5)
      | ((with_reducible show wpList _ _ _ (⟨none, .store _ (.tmp 4) _, _, _, _, _⟩ :: _) _ _); refine store_row rfl 31 _ _ rfl W.heap.size _ (refL V S) (refL V S) rfl rfl H5.out.r rfl infoD (refL_one _ _) ?_; intro w6 hr6 hg6 hs6
         have R6 := Lib.hid (show RBox w6 W.heap.size V S from hr6)
         have Z6 := Lib.hid (H5.out.z.grown hg6 (fun e => H5.out.rz (Option.some.inj e).symm))
         have B6 := Lib.hid (H5.out.below.grown hg6 H5.out.below.size (fun k hk => by cases hk; exact H5.out.low.1))
         clear hr6 hg6 hs6)
      | (refine load_row rfl 31 _ rfl W.heap.size _ (refL V S) _ rfl R6.out Try.underlying31 rfl infoD ?_)
      | (refine store_row rfl 31 _ _ rfl w2.heap.size _ zeroD (refL V S) rfl rfl Z6.out rfl infoD (refL_one _ _) ?_; intro w7 hr7 hg7 _; have HR7 := Lib.hid hr7; have B7 := Lib.hid (B6.out.grown hg7 B6.out.size (fun k hk => by cases hk; exact H4.out.low.2)); clear hr7 hg7))
    exact bodyPost_ret (results_ref2 rfl _ _ w2.heap.size V S rfl HR7.out) rfl ⟨rfl, B7.out⟩
  · go_enter Try.func7, Try.ntmps7
    go_wp2_with (first
      | ((with_reducible show wpList _ _ _ (⟨some 4, _, _, _, _, _⟩ :: _) _ _); refine box_row rfl 31 (.tmp 1) (refL V S) rfl rfl ?_; intro w1 hr1 hb1 hs1; have HB1 := Lib.hid hb1; have HR1 := Lib.hid (show RBox w1 W.heap.size V S from hr1); have HS1 := Lib.hid hs1; clear hb1 hr1 hs1)
      | ((with_reducible show wpList _ _ _ (⟨some 5, _, _, _, _, _⟩ :: _) _ _); refine box_row rfl 37 (.tmp 2) [.int .i64 z, .string s, .string t, .slice a m c, .int .i64 n, .slice a5 m5 c5] rfl rfl ?_; intro w2 hr2 hb2 hs2; have HB2 := Lib.hid (HB1.out.trans (hb2.mono HB1.out.size)); have HR2 := Lib.hid (RBox.below HR1.out hb2); have HX := Lib.hid hr2; have HS2 := Lib.hid hs2; clear hb2 hr2 hs2)
      | ((with_reducible show wpList _ _ _ (⟨some 6, _, _, _, _, _⟩ :: _) _ _); refine alloc_row rfl 31 zeroD rfl zero_disk ?_; intro w3 hr3 hb3 hs3
         have HB3 := Lib.hid (HB2.out.trans (hb3.mono HB2.out.size))
         have H3 := Lib.hid (show Bx W w3 W.heap.size w1.heap.size w2.heap.size V S [.int .i64 z, .string s, .string t, .slice a m c, .int .i64 n, .slice a5 m5 c5] from ⟨RBox.below HR2.out hb3, RowAt.below HX.out hb3, hr3, by have := HS1.out; have := HS2.out; omega, by have := HS1.out; have := HS2.out; omega, HB3.out⟩)
         obtain ⟨k0, k1, k2, k3, k4, k5⟩ := H3.out.seen
         dsimp only [List.getElem?_cons_zero, List.getElem?_cons_succ] at k0 k1 k2 k3 k4 k5
         have HA := Lib.hid (H3.out.on ((Below.refl _ _).alloc (Nat.le_refl _) (.cells #[] 5)))
         obtain ⟨m0, m1, m2, m3, m4, m5'⟩ := HA.out.seen
         dsimp only [List.getElem?_cons_zero, List.getElem?_cons_succ] at m0 m1 m2 m3 m4 m5'
         clear hr3 hb3 hs3)
      | (go_at_call 22; (with_reducible refine (nil_remove s _).mono ?_); rintro e4 w4 ⟨rfl, hb4⟩
         have H4 := Lib.hid (H3.out.on hb4)
         clear hb4
         clear k0 k1 k2 k3 k4 k5 m0 m1 m2 m3 m4 m5'
         obtain ⟨k0, k1, k2, k3, k4, k5⟩ := H4.out.seen
         dsimp only [List.getElem?_cons_zero, List.getElem?_cons_succ] at k0 k1 k2 k3 k4 k5)
      | (refine load_row rfl 31 _ rfl W.heap.size _ (refL V S) _ rfl H4.out.r Try.underlying31 rfl infoD ?_)
      | (go_at_call 21; (with_reducible refine (refDrop_ns s _ HMD.out).mono ?_); rintro e5 w5 ⟨rfl, hb5⟩
         have H5 := Lib.hid (H4.out.on hb5)
         clear k0 k1 k2 k3 k4 k5 hb5)
      | ((with_reducible show wpList _ _ _ (⟨none, .store _ (.tmp 4) _, _, _, _, _⟩ :: _) _ _); refine store_row rfl 31 _ _ rfl W.heap.size _ (refL V S) (refL V S) rfl rfl H5.out.r rfl infoD (refL_one _ _) ?_; intro w6 hr6 hg6 hs6
         have R6 := Lib.hid (show RBox w6 W.heap.size V S from hr6)
         have Z6 := Lib.hid (H5.out.z.grown hg6 (fun e => H5.out.rz (Option.some.inj e).symm))
         have B6 := Lib.hid (H5.out.below.grown hg6 H5.out.below.size (fun k hk => by cases hk; exact H5.out.low.1))
         clear hr6 hg6 hs6)
      | (refine load_row rfl 31 _ rfl W.heap.size _ (refL V S) _ rfl R6.out Try.underlying31 rfl infoD ?_)
      | (refine store_row rfl 31 _ _ rfl w2.heap.size _ zeroD (refL V S) rfl rfl Z6.out rfl infoD (refL_one _ _) ?_; intro w7 hr7 hg7 _; have HR7 := Lib.hid hr7; have B7 := Lib.hid (B6.out.grown hg7 B6.out.size (fun k hk => by cases hk; exact H4.out.low.2)); clear hr7 hg7))
    exact bodyPost_ret (results_ref2 rfl _ _ w2.heap.size V S rfl HR7.out) rfl ⟨rfl, B7.out⟩
  · go_enter Try.func7, Try.ntmps7
    go_wp2_with (first
      | ((with_reducible show wpList _ _ _ (⟨some 4, _, _, _, _, _⟩ :: _) _ _); refine box_row rfl 31 (.tmp 1) (refL V S) rfl rfl ?_; intro w1 hr1 hb1 hs1; have HB1 := Lib.hid hb1; have HR1 := Lib.hid (show RBox w1 W.heap.size V S from hr1); have HS1 := Lib.hid hs1; clear hb1 hr1 hs1)
      | ((with_reducible show wpList _ _ _ (⟨some 5, _, _, _, _, _⟩ :: _) _ _); refine box_row rfl 37 (.tmp 2) [.int .i64 z, .string s, .string t, .slice a m c, .int .i64 n, .slice a5 m5 c5] rfl rfl ?_; intro w2 hr2 hb2 hs2; have HB2 := Lib.hid (HB1.out.trans (hb2.mono HB1.out.size)); have HR2 := Lib.hid (RBox.below HR1.out hb2); have HX := Lib.hid hr2; have HS2 := Lib.hid hs2; clear hb2 hr2 hs2)
      | ((with_reducible show wpList _ _ _ (⟨some 6, _, _, _, _, _⟩ :: _) _ _); refine alloc_row rfl 31 zeroD rfl zero_disk ?_; intro w3 hr3 hb3 hs3
         have HB3 := Lib.hid (HB2.out.trans (hb3.mono HB2.out.size))
         have H3 := Lib.hid (show Bx W w3 W.heap.size w1.heap.size w2.heap.size V S [.int .i64 z, .string s, .string t, .slice a m c, .int .i64 n, .slice a5 m5 c5] from ⟨RBox.below HR2.out hb3, RowAt.below HX.out hb3, hr3, by have := HS1.out; have := HS2.out; omega, by have := HS1.out; have := HS2.out; omega, HB3.out⟩)
         obtain ⟨k0, k1, k2, k3, k4, k5⟩ := H3.out.seen
         dsimp only [List.getElem?_cons_zero, List.getElem?_cons_succ] at k0 k1 k2 k3 k4 k5
         have HA := Lib.hid (H3.out.on ((Below.refl _ _).alloc (Nat.le_refl _) (.cells #[] 5)))
         obtain ⟨m0, m1, m2, m3, m4, m5'⟩ := HA.out.seen
         dsimp only [List.getElem?_cons_zero, List.getElem?_cons_succ] at m0 m1 m2 m3 m4 m5'
         clear hr3 hb3 hs3)
      | (go_at_call 23; (with_reducible refine (nil_read s _).mono ?_); rintro e4 w4 ⟨rfl, hb4⟩
         have H4 := Lib.hid (H3.out.on hb4)
         clear hb4
         clear k0 k1 k2 k3 k4 k5 m0 m1 m2 m3 m4 m5'
         obtain ⟨k0, k1, k2, k3, k4, k5⟩ := H4.out.seen
         dsimp only [List.getElem?_cons_zero, List.getElem?_cons_succ] at k0 k1 k2 k3 k4 k5)
      | (refine load_row rfl 31 _ rfl W.heap.size _ (refL V S) _ rfl H4.out.r Try.underlying31 rfl infoD ?_)
      | (go_at_call 24; (with_reducible refine (refRead_ns s _ HMD.out).mono ?_); rintro e5 w5 ⟨rfl, hb5⟩
         have H5 := Lib.hid (H4.out.on hb5)
         have s4 := run_str (Bytes.nil w5) 9 Try.underlying9
         have H5R := Lib.hid H5.out.r
         have H5Z := Lib.hid H5.out.z
         have H5B := Lib.hid H5.out.below
         clear k0 k1 k2 k3 k4 k5 hb5)
      | (refine load_row rfl 31 _ rfl W.heap.size _ (refL V S) _ rfl H5R.out Try.underlying31 rfl infoD ?_)
      | (refine store_row rfl 31 _ _ rfl w2.heap.size _ zeroD (refL V S) rfl rfl H5Z.out rfl infoD (refL_one _ _) ?_; intro w7 hr7 hg7 _; have HR7 := Lib.hid hr7; have B7 := Lib.hid (H5B.out.grown hg7 H5B.out.size (fun k hk => by cases hk; exact H4.out.low.2)); clear hr7 hg7))
    exact bodyPost_ret (results_ref2 rfl _ _ w2.heap.size V S rfl HR7.out) rfl ⟨rfl, B7.out⟩
  · go_enter Try.func7, Try.ntmps7
    go_wp2_with (first
      | ((with_reducible show wpList _ _ _ (⟨some 4, _, _, _, _, _⟩ :: _) _ _); refine box_row rfl 31 (.tmp 1) (refL V S) rfl rfl ?_; intro w1 hr1 hb1 hs1; have HB1 := Lib.hid hb1; have HR1 := Lib.hid (show RBox w1 W.heap.size V S from hr1); have HS1 := Lib.hid hs1; clear hb1 hr1 hs1)
      | ((with_reducible show wpList _ _ _ (⟨some 5, _, _, _, _, _⟩ :: _) _ _); refine box_row rfl 37 (.tmp 2) [.int .i64 z, .string s, .string t, .slice a m c, .int .i64 n, .slice a5 m5 c5] rfl rfl ?_; intro w2 hr2 hb2 hs2; have HB2 := Lib.hid (HB1.out.trans (hb2.mono HB1.out.size)); have HR2 := Lib.hid (RBox.below HR1.out hb2); have HX := Lib.hid hr2; have HS2 := Lib.hid hs2; clear hb2 hr2 hs2)
      | ((with_reducible show wpList _ _ _ (⟨some 6, _, _, _, _, _⟩ :: _) _ _); refine alloc_row rfl 31 zeroD rfl zero_disk ?_; intro w3 hr3 hb3 hs3
         have HB3 := Lib.hid (HB2.out.trans (hb3.mono HB2.out.size))
         have H3 := Lib.hid (show Bx W w3 W.heap.size w1.heap.size w2.heap.size V S [.int .i64 z, .string s, .string t, .slice a m c, .int .i64 n, .slice a5 m5 c5] from ⟨RBox.below HR2.out hb3, RowAt.below HX.out hb3, hr3, by have := HS1.out; have := HS2.out; omega, by have := HS1.out; have := HS2.out; omega, HB3.out⟩)
         obtain ⟨k0, k1, k2, k3, k4, k5⟩ := H3.out.seen
         dsimp only [List.getElem?_cons_zero, List.getElem?_cons_succ] at k0 k1 k2 k3 k4 k5
         have HA := Lib.hid (H3.out.on ((Below.refl _ _).alloc (Nat.le_refl _) (.cells #[] 5)))
         obtain ⟨m0, m1, m2, m3, m4, m5'⟩ := HA.out.seen
         dsimp only [List.getElem?_cons_zero, List.getElem?_cons_succ] at m0 m1 m2 m3 m4 m5'
         clear hr3 hb3 hs3)
      | (go_at_call 25; (with_reducible refine (nil_arm n _).mono ?_); rintro e4 w4 ⟨rfl, rfl⟩
         have H4 := Lib.hid H3.out
         clear k0 k1 k2 k3 k4 k5 m0 m1 m2 m3 m4 m5'
         obtain ⟨k0, k1, k2, k3, k4, k5⟩ := H4.out.seen
         dsimp only [List.getElem?_cons_zero, List.getElem?_cons_succ] at k0 k1 k2 k3 k4 k5
         obtain ⟨q0, q1, q2, q3, q4, q5, q6, q7, q8, q9⟩ := RBox.cells H4.out.r
         have HMQ := HMD.out
         rw [HMQ] at q0
         have H5R := Lib.hid H4.out.r
         have H5Z := Lib.hid H4.out.z
         have H5B := Lib.hid H4.out.below)
      | (refine load_row rfl 31 _ rfl W.heap.size _ (refL V S) _ rfl H5R.out Try.underlying31 rfl infoD ?_)
      | (refine store_row rfl 31 _ _ rfl w2.heap.size _ zeroD (refL V S) rfl rfl H5Z.out rfl infoD (refL_one _ _) ?_; intro w7 hr7 hg7 _; have HR7 := Lib.hid hr7; have B7 := Lib.hid (H5B.out.grown hg7 H5B.out.size (fun k hk => by cases hk; exact H4.out.low.2)); clear hr7 hg7))
    exact bodyPost_ret (results_ref2 rfl _ _ w2.heap.size V S rfl HR7.out) rfl ⟨rfl, B7.out⟩
  · go_enter Try.func7, Try.ntmps7
    go_wp2_with (first
      | ((with_reducible show wpList _ _ _ (⟨some 4, _, _, _, _, _⟩ :: _) _ _); refine box_row rfl 31 (.tmp 1) (refL V S) rfl rfl ?_; intro w1 hr1 hb1 hs1; have HB1 := Lib.hid hb1; have HR1 := Lib.hid (show RBox w1 W.heap.size V S from hr1); have HS1 := Lib.hid hs1; clear hb1 hr1 hs1)
      | ((with_reducible show wpList _ _ _ (⟨some 5, _, _, _, _, _⟩ :: _) _ _); refine box_row rfl 37 (.tmp 2) [.int .i64 z, .string s, .string t, .slice a m c, .int .i64 n, .slice a5 m5 c5] rfl rfl ?_; intro w2 hr2 hb2 hs2; have HB2 := Lib.hid (HB1.out.trans (hb2.mono HB1.out.size)); have HR2 := Lib.hid (RBox.below HR1.out hb2); have HX := Lib.hid hr2; have HS2 := Lib.hid hs2; clear hb2 hr2 hs2)
      | ((with_reducible show wpList _ _ _ (⟨some 6, _, _, _, _, _⟩ :: _) _ _); refine alloc_row rfl 31 zeroD rfl zero_disk ?_; intro w3 hr3 hb3 hs3
         have HB3 := Lib.hid (HB2.out.trans (hb3.mono HB2.out.size))
         have H3 := Lib.hid (show Bx W w3 W.heap.size w1.heap.size w2.heap.size V S [.int .i64 z, .string s, .string t, .slice a m c, .int .i64 n, .slice a5 m5 c5] from ⟨RBox.below HR2.out hb3, RowAt.below HX.out hb3, hr3, by have := HS1.out; have := HS2.out; omega, by have := HS1.out; have := HS2.out; omega, HB3.out⟩)
         obtain ⟨k0, k1, k2, k3, k4, k5⟩ := H3.out.seen
         dsimp only [List.getElem?_cons_zero, List.getElem?_cons_succ] at k0 k1 k2 k3 k4 k5
         have HA := Lib.hid (H3.out.on ((Below.refl _ _).alloc (Nat.le_refl _) (.cells #[] 3)))
         obtain ⟨m0, m1, m2, m3, m4, m5'⟩ := HA.out.seen
         dsimp only [List.getElem?_cons_zero, List.getElem?_cons_succ] at m0 m1 m2 m3 m4 m5'
         clear hr3 hb3 hs3)
      | ((with_reducible show wpList _ _ _ (⟨some 123, _, _, _, _, _⟩ :: _) _ _); (refine appG intK Try.underlying27 intInfo rfl rfl _ _ rfl w3.heap.size (.slice (some ⟨w3.heap.size, 0, none⟩) 0 0) [] rfl (OwnG.lit rfl _ rfl) a5 m5 c5 fs rfl (at_of_ints (HFT.out.below (HB3.out.trans (((Below.refl _ _).alloc (Nat.le_refl _) _).mono HB3.out.size)))) (by have := HM5.out; simp; omega) (by simp) m5 (by simp) ?_); intro aC cC wC _ hgC
         have HBC := Lib.hid (show Below w3.heap.size w3 wC from ((Below.refl _ _).alloc (Nat.le_refl _) (.cells #[] 3)).grown hgC (by simp) (fun k hk => by cases hk; exact Nat.le_refl _))
         have HC := Lib.hid (H3.out.on HBC.out)
         obtain ⟨j0, j1, j2, j3, j4, j5⟩ := HC.out.seen
         dsimp only [List.getElem?_cons_zero, List.getElem?_cons_succ] at j0 j1 j2 j3 j4 j5
         clear hgC)
      | (go_at_call 26; (with_reducible refine (nil_crash aC m5 cC _).mono ?_); rintro e4 w4 ⟨rfl, hb4⟩
         have H4 := Lib.hid (HC.out.on hb4)
         clear hb4
         clear j0 j1 j2 j3 j4 j5 k0 k1 k2 k3 k4 k5 m0 m1 m2 m3 m4 m5'
         obtain ⟨k0, k1, k2, k3, k4, k5⟩ := H4.out.seen
         dsimp only [List.getElem?_cons_zero, List.getElem?_cons_succ] at k0 k1 k2 k3 k4 k5)
      | (refine load_row rfl 31 _ rfl W.heap.size _ (refL V S) _ rfl H4.out.r Try.underlying31 rfl infoD ?_)
      | (go_at_call 27; (with_reducible refine (refCrash_nil V S a5 m5 c5 _ HMD.out).mono ?_); rintro e5 w5 ⟨rfl, hb5⟩
         have H5 := Lib.hid (H4.out.on hb5)
         clear k0 k1 k2 k3 k4 k5 hb5)
      | ((with_reducible show wpList _ _ _ (⟨none, .store _ (.tmp 4) _, _, _, _, _⟩ :: _) _ _); refine store_row rfl 31 _ _ rfl W.heap.size _ (refL V S) (refL V S) rfl rfl H5.out.r rfl infoD (refL_one _ _) ?_; intro w6 hr6 hg6 hs6
         have R6 := Lib.hid (show RBox w6 W.heap.size V S from hr6)
         have Z6 := Lib.hid (H5.out.z.grown hg6 (fun e => H5.out.rz (Option.some.inj e).symm))
         have B6 := Lib.hid (H5.out.below.grown hg6 H5.out.below.size (fun k hk => by cases hk; exact H5.out.low.1))
         clear hr6 hg6 hs6)
      | (refine load_row rfl 31 _ rfl W.heap.size _ (refL V S) _ rfl R6.out Try.underlying31 rfl infoD ?_)
      | (refine store_row rfl 31 _ _ rfl w2.heap.size _ zeroD (refL V S) rfl rfl Z6.out rfl infoD (refL_one _ _) ?_; intro w7 hr7 hg7 _; have HR7 := Lib.hid hr7; have B7 := Lib.hid (B6.out.grown hg7 B6.out.size (fun k hk => by cases hk; exact H4.out.low.2)); clear hr7 hg7))
    exact bodyPost_ret (results_ref2 rfl _ _ w2.heap.size V S rfl HR7.out) rfl ⟨rfl, B7.out⟩
#print axioms played_nil
end Go.Proofs.Ytemphljkfpkgmaa
