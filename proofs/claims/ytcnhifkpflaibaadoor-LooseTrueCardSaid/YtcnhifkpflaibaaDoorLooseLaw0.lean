/-
  The walk of Put; a disk's acts as loose's laws play them: light, did.
-/
import Derived.Test.YtcnhifkpflaibaaDoorLoosePut
namespace Go.Proofs.YtcnhifkpflaibaaDoor
open Go.RowKit Go.Maps

section
variable {w W W1 W2 W3 : World} {F F6 : Nat → Prop} {db : Nat} {S T : DS} {a : Option Addr} {n c : Nat} {b : List UInt8}
set_option maxRecDepth 100000 in
set_option maxHeartbeats 2000000 in
theorem putAll_any (hs : Safe F W a n c b) (R : Run w W F db S) (hT : Tables w) {k : Nat} (hf : Few S k) (hk : k ≤ 900000) {r : DS × List UInt8 × List UInt8 × Nat} (hr : putL sumF S b = r) :
    Calls Tryd.prog 12 #[Pt db, .slice a n c] W (PutEnd w W F db r) := by
  have hn : b.length = n := hs.1.1
  have hnc := hs.1.2.1
  have hc := hs.1.2.2.1
  have HSZ := Lib.hid R.2.2.size
  have HR := Lib.hid R
  by_cases hl : (262144 : Int) < (n : Int)
  · have HE := Lib.hid (show r = (S, zeroId, [], 2) by unfold putL at hr; rw [if_pos (by omega)] at hr; exact hr.symm)
    clear hs hr hf hk hn R
    go_enter Tryd.func12, Tryd.ntmps12
    go_wp2_with (first
      | ((with_reducible show wpList _ _ _ (⟨some 4, _, _, _, _, _⟩ :: _) _ _); refine alloc_id rfl rfl ?_; intro w1 hid1 hb1 hs1; have HB1 := Lib.hid hb1; clear hb1 hs1)
      | ((with_reducible show wpList _ _ _ (⟨some 10, _, _, _, _, _⟩ :: _) _ _); refine build_id rfl rfl ?_)
      | (refine store_id rfl (.tmp 4) (.tmp 10) rfl _ _ idZero rfl rfl hid1 idZero_length ?_; intro w7 hid7 hg7 hs7))
    have HF := Lib.hid (run_grown (W := W) (HR.out.below HB1.out) (Step.of_below HB1.out) hg7 HSZ.out (Nat.le_refl _) (PAt.not HR.out (Nat.le_refl _)))
    exact bodyPost_ret (results_id3 rfl _ _ W.heap.size _ rfl hid7) rfl (by rw [HE.out]; exact ⟨none, 0, 0, F, rfl, Safe.nil, HF.out.1, HF.out.2, fun g off e => by cases e⟩)
  · have hr2 : putB sumF S b (sumF b) (fileN (sumF b)) (readS S (fileN (sumF b))) = r := by unfold putL at hr; rw [if_neg (by omega)] at hr; exact hr
    have P := Lib.hid (fun W1 (hb : Below W.heap.size W W1) => put_any9 (hs.below hb) (R.below hb) hT (by omega) hf hk hr2)
    have HIL := Lib.hid (show r.2.1.length = 32 by
      rw [← hr2]
      unfold putB finL
      repeat' split
      all_goals first | exact sumF_length b | rfl)
    clear hs hr hr2 hf hk hn R
    go_enter Tryd.func12, Tryd.ntmps12
    go_wp2_with (first
      | ((with_reducible show wpList _ _ _ (⟨some 4, _, _, _, _, _⟩ :: _) _ _); refine alloc_id rfl rfl ?_; intro w1 hid1 hb1 hs1; have HB1 := Lib.hid hb1; have HI1 := Lib.hid hid1; have HS1 := Lib.hid hs1; clear hb1 hs1 hid1)
      | (go_at_call 26; (with_reducible refine (P.out _ HB1.out).mono ?_); rintro e w2 ⟨a2, n2, c2, F2, rfl, hsf, hr2, hs2, hnw⟩; have hid2 := HI1.out.chg hs2.chg (PAt.not HR.out (Nat.le_refl _)); have HSF := Lib.hid hsf; have R2 := Lib.hid hr2; have S2 := Lib.hid ((Step.of_below HB1.out).trans hs2); have HNW := Lib.hid hnw; have HN2 := Lib.hid (keep_not HI1.out.lt (PAt.not HR.out (Nat.le_refl _)) hs2); clear hsf hr2 hs2 hnw)
      | (refine store_id rfl (.tmp 4) (.tmp 14) rfl _ _ r.2.1 rfl rfl hid2 HIL.out ?_; intro w7 hid7 hg7 hs7))
    have HF := Lib.hid (run_grown (W := W) R2.out S2.out hg7 HSZ.out (Nat.le_refl _) HN2.out)
    have HSF7 := Lib.hid (HSF.out.grown hg7 (fun k off e => by have := HNW.out k off e; have := HI1.out.lt; omega))
    exact bodyPost_ret (results_id3 rfl _ _ W.heap.size _ rfl hid7) rfl ⟨a2, n2, c2, F2, rfl, HSF7.out, HF.out.1, HF.out.2, fun k off e => Nat.le_trans HB1.out.size (HNW.out k off e)⟩
#print axioms putAll_any
end
end Go.Proofs.YtcnhifkpflaibaaDoor
