/-
  The walk of LooseKept.
-/
import Derived.Test.YtcnhifkpflaibaaDoorLooseTwice
namespace Go.Proofs.YtcnhifkpflaibaaDoor
open Go.RowKit Go.Maps

theorem tot_act {S : DS} (s : Nm) (b : List UInt8) : ∀ f ∈ [remA s, appA s b, synA s], total (f S).1.files ≤ total S.files + b.length ∧ (f S).1.quota = S.quota := by
  intro f hf
  simp only [List.mem_cons, List.not_mem_nil, or_false] at hf
  rcases hf with rfl | rfl | rfl
  · exact ⟨Nat.le_trans (total_turn _ _ _ _) (Nat.le_add_right _ _), quota_turn _ _ _ _⟩
  · exact ⟨total_append _ _ _, quota_append _ _ _⟩
  · exact ⟨Nat.le_trans (total_sync _ _) (Nat.le_add_right _ _), quota_sync _ _⟩
theorem chain_tot (s : Nm) (b : List UInt8) : ∀ (L : List (DS → DS × Nat)) (S : DS), (∀ f ∈ L, f ∈ [remA s, appA s b, synA s]) → total (chain S L).1.files ≤ total S.files + L.length * b.length ∧ (chain S L).1.quota = S.quota
  | [], S, _ => ⟨by simp [chain], rfl⟩
  | f :: r, S, h => by
    obtain ⟨h1, h2⟩ := tot_act (S := S) s b f (h f (by simp))
    obtain ⟨h3, h4⟩ := chain_tot s b r (f S).1 (fun g hg => h g (List.mem_cons_of_mem _ hg))
    have hm : (f :: r).length * b.length = r.length * b.length + b.length := by rw [List.length_cons, Nat.succ_mul]
    unfold chain
    split
    · exact ⟨by omega, h2⟩
    · exact ⟨by omega, h4.trans h2⟩
theorem put_tot (S : DS) (b : List UInt8) : total (putL sumF S b).1.files ≤ total S.files + 3 * b.length ∧ (putL sumF S b).1.quota = S.quota := by
  have c := fun L (h : ∀ f ∈ L, f ∈ [remA (fileN (sumF b)), appA (fileN (sumF b)) b, synA (fileN (sumF b))]) (hl : L.length ≤ 3) => (show total (chain S L).1.files ≤ total S.files + 3 * b.length ∧ (chain S L).1.quota = S.quota from by
    obtain ⟨h1, h2⟩ := chain_tot (fileN (sumF b)) b L S h
    have := Nat.mul_le_mul_right b.length hl
    exact ⟨by omega, h2⟩)
  unfold putL
  split
  · exact ⟨Nat.le_add_right _ _, rfl⟩
  · unfold putB
    split
    · rw [finL_fst]; exact c _ (fun f hf => List.mem_cons_of_mem _ hf) (by simp)
    split
    · exact ⟨Nat.le_add_right _ _, rfl⟩
    split
    · rw [finL_fst]; exact c _ (fun f hf => by simp at hf; subst hf; simp) (by simp)
    split
    · exact ⟨Nat.le_add_right _ _, rfl⟩
    · rw [finL_fst]; exact c _ (fun f hf => hf) (by simp)
theorem did_tot {S : DS} (hi : Inv S) (x : LActV) (hx : x.b.length ≤ 200) : total (didS S x).files ≤ total S.files + 600 ∧ (didS S x).quota = S.quota := by
  obtain ⟨p1, p2⟩ := put_tot S x.b
  have hp : total (putL sumF S x.b).1.files ≤ total S.files + 600 ∧ (putL sumF S x.b).1.quota = S.quota := ⟨by omega, p2⟩
  unfold didS
  split
  · exact hp
  split
  · exact hp
  split
  · unfold dropL
    split <;> exact ⟨Nat.le_trans (total_turn _ _ _ _) (Nat.le_add_right _ _), quota_turn _ _ _ _⟩
  split
  · exact ⟨Nat.le_trans (total_crash hi _) (Nat.le_add_right _ _), rfl⟩
  split
  · exact ⟨Nat.le_add_right _ _, rfl⟩
  · exact ⟨Nat.le_add_right _ _, rfl⟩
/-- Up again, and not armed. -/
def upL (S : DS) : DS := setArm (if S.down then crashS S [] else S) 0
theorem calm_upL {S : DS} {q t : Nat} (h : Inv S) (hq : S.quota = q) (ht : total S.files ≤ t) : Calm (upL S) q t := by
  unfold upL
  cases hd : S.down
  · exact ⟨inv_setArm h 0, hd, rfl, hq, ht⟩
  · exact ⟨inv_setArm (inv_crash h []) 0, rfl, rfl, hq, Nat.le_trans (total_crash h []) ht⟩
theorem few_upL {S : DS} {k : Nat} (h : Few S k) : Few (upL S) k := by
  unfold upL
  cases hd : S.down
  · exact few_setArm h 0
  · exact few_setArm (few_crash h []) 0
/-- What the law plays, behind the acts. -/
inductive KeptR (S : DS) (lb id : List UInt8) (fs : List Int) : Prop where
  | two (o : List UInt8) (h : putL sumF S lb = (S, id, o, 7)) (hne : o ≠ lb) (hs : sumF o = id) (hl : o.length ≤ 1073741824)
  | kept (S2 S3 : DS) (h : putL sumF S lb = (S2, id, [], 0)) (hc : crashS S2 fs = S3) (hg : getL sumF S3 id = (lb, 0))
theorem kept_r {S : DS} {t : Nat} (h : Calm S 1048576 t) (ht : t ≤ 100000) (lb : List UInt8) (hb : lb.length ≤ 300) (fs : List Int) : KeptR S lb (sumF lb) fs := by
  rcases put_calm h sumF_length lb (by omega) (by omega) with ⟨o, h1, h2, h3, h4⟩ | ⟨S2, h1, h2, h3, h4⟩
  · refine .two o h1 h2 h3 ?_
    have := read_le h.inv (fileN (sumF lb))
    rw [h4] at this
    exact Nat.le_trans this h.inv.most
  · exact .kept S2 _ h1 rfl (put_crash h3 h2 fs)

set_option maxRecDepth 100000 in
set_option maxHeartbeats 8000000 in
theorem looseKept_any (a : Option Addr) (n c : Nat) (L : List LActV) (a1 : Option Addr) (n1 c1 : Nat) (lb : List UInt8) (a2 : Option Addr) (n2 c2 : Nat) (fs : List Int) (w : World) (hA : LActsAt w a n c L) (hb : Bytes w a1 n1 c1 lb) (hf : At1 I w a2 n2 c2 fs)
    (hz : ∀ z ∈ fs, -9223372036854775808 ≤ z ∧ z ≤ 9223372036854775807) (hT : Tables w) :
    Calls Tryd.prog 3 #[.slice a n c, .slice a1 n1 c1, .slice a2 n2 c2] w fun e w' => e = .returned (.bool true) ∧ Below w.heap.size w w' := by
  have hn := hA.le
  have hc := hA.most
  have hn1 := hb.2.1
  have hc1 := hb.2.2.1
  have hn2 := hf.2.1
  have hc2 := hf.2.2.1
  have hlb := hb.1
  have HA := Lib.hid hA
  by_cases hQ : ¬ LLight n 30 L
  · have P := Lib.hid (light_no 30 30 rfl (by omega) hA hQ)
    clear hA hb hf hz hT hQ hlb
    go_enter Tryd.func3, Tryd.ntmps3
    go_wp2_with (go_at_call 6; (with_reducible refine P.out.mono ?_); rintro e w1 ⟨rfl, rfl⟩)
    go_ret
    exact ⟨rfl, Below.refl _ _⟩
  have hQ := Classical.not_not.1 hQ
  have P := Lib.hid (light_yes 30 30 rfl (by omega) hA hQ)
  have HN := Lib.hid hQ
  by_cases g1 : (300 : Int) < (n1 : Int)
  · clear hA hb hf hz hT hQ hlb
    go_enter Tryd.func3, Tryd.ntmps3
    go_wp2_with (go_at_call 6; (with_reducible refine P.out.mono ?_); rintro e w1 ⟨rfl, rfl⟩)
    go_ret
    exact ⟨rfl, Below.refl _ _⟩
  by_cases g2 : (60 : Int) < (n2 : Int)
  · clear hA hb hf hz hT hQ hlb
    go_enter Tryd.func3, Tryd.ntmps3
    go_wp2_with (go_at_call 6; (with_reducible refine P.out.mono ?_); rintro e w1 ⟨rfl, rfl⟩)
    go_ret
    exact ⟨rfl, Below.refl _ _⟩
  have hlb3 : lb.length ≤ 300 := by omega
  have HL3 := Lib.hid hlb3
  have HT := Lib.hid hT
  have HLB := Lib.hid hb
  have HF := Lib.hid hf
  have HZ := Lib.hid hz
  obtain ⟨id, hid⟩ : ∃ id, sumF lb = id := ⟨_, rfl⟩
  have HID := Lib.hid hid
  have HIL := Lib.hid (show id.length = 32 from hid ▸ sumF_length lb)
  have SB := Lib.hid (fun (W' : World) (hb' : Below w.heap.size w W') a n c (h : Bytes W' a n c lb) => sum_box h (hT.below hb') (by omega) hid)
  have AW := Lib.hid (fun W (h : Below w.heap.size w W) => awake_any9 W (hT.below h))
  have N1 := Lib.hid (aw_new (Below.refl w.heap.size w) 1048576 1048576 rfl (by omega))
  have hnI : (n : Int) ≤ 30 := by have := HN.out.1; omega
  clear hA hb hf hz hT hQ hn hc hn1 hc1 hn2 hc2 hlb hlb3 hid
  go_enter Tryd.func3, Tryd.ntmps3
  go_wp2_with (first
    | (go_at_call 6; (with_reducible refine P.out.mono ?_); rintro e w1 ⟨rfl, rfl⟩)
    | (go_at_call 7; (with_reducible refine N1.out.mono ?_); rintro e W1 ⟨db, rfl, F, hr⟩; have R1 := Lib.hid hr; clear hr))
  go_loopg [8] n (fun g v8 W => ∃ i : Nat, ∃ S F, Run w W F db S ∧ Few S (3 * i) ∧ (total S.files ≤ 600 * i ∧ S.quota = 1048576) ∧ v8 = .int .i64 i ∧ g + i = n)
  case atStart => exact ⟨0, _, _, R1.out, few_new _, ⟨Nat.le_refl _, rfl⟩, rfl, rfl⟩
  case round =>
    obtain ⟨i, S, F3, hR, hF, hq, rfl, hg⟩ := hrel
    have HG := Lib.hid hg
    have HR := Lib.hid hR
    have HFW := Lib.hid hF
    have HQ := Lib.hid hq
    have hi0 : (0 : Int) ≤ (i : Int) := by omega
    have hiI : (i : Int) ≤ (n : Int) := by omega
    by_cases hi : (i : Int) < (n : Int)
    · have hin : i < n := by omega
      have HI := Lib.hid hin
      obtain ⟨b, o, rfl⟩ := HA.out.some_ (by omega)
      have hX := HA.out.below hR.2.2
      have k0 := hX.cell i hin (i := 0) (v := .int .i64 (L.getD i default).z) rfl
      have k1 := hX.cell i hin (i := 1) (v := .slice (L.getD i default).a (L.getD i default).m (L.getD i default).c) rfl
      have k2 := hX.cell i hin (i := 2) (v := .slice (L.getD i default).a2 (L.getD i default).m2 (L.getD i default).c2) rfl
      have k3 := hX.cell i hin (i := 3) (v := .int .i64 (L.getD i default).n) rfl
      have k4 := hX.cell i hin (i := 4) (v := .slice (L.getD i default).a5 (L.getD i default).m5 (L.getD i default).c5) rfl
      rw [Nat.add_zero] at k0
      have hx2 := (HN.out.2 i hin).1
      have D := Lib.hid (did_any (L.getD i default) hR HT.out (HA.out.each i hin) hx2 hF (by have := HN.out.1; omega))
      have HFD := Lib.hid (few_did hR.1.1 hF (L.getD i default))
      have HQD := Lib.hid (did_tot hR.1.1 (L.getD i default) hx2)
      generalize (L.getD i default) = x at k0 k1 k2 k3 k4 D HFD HQD hx2
      clear hR hF hq hg hX hin hx2
      go_wp2_with (go_at_call 8; (with_reducible refine D.out.mono ?_); rintro e w5 ⟨rfl, F5, hr5⟩)
      go_roundg (gk - 1)
      case measure => have := HG.out; omega
      case rel => exact ⟨i + 1, _, F5, hr5, HFD.out.mono (by omega), ⟨by have := HQD.out.1; have := HQ.out.1; omega, HQD.out.2.trans HQ.out.2⟩, by go_num, by have := HG.out; omega⟩
    · have hC := calm_upL hR.1.1 hq.2 hq.1
      have hFU := few_upL hF
      have hk := kept_r hC (by have := HN.out.1; omega) lb HL3.out fs
      obtain ⟨S1, hS1⟩ : ∃ S1, upL S = S1 := ⟨_, rfl⟩
      rw [hS1] at hk hFU hC
      have HFU := Lib.hid hFU
      have HK30 := Lib.hid (show 3 * i ≤ 90 by have := HN.out.1; omega)
      have HC := Lib.hid hC
      have HS1 := Lib.hid hS1
      rw [HID.out] at hk
      cases hd : S.down with
      | false =>
        have hs : setArm S 0 = S1 := by rw [← HS1.out]; unfold upL; rw [hd]; rfl
        have DW := Lib.hid (fun W F (R : Run w W F db S) => lo_down R hd)
        have AR := Lib.hid (fun W F (R : Run w W F db S) => lo_arm R (z := 0) (by omega) hs)
        cases hk with
        | two o hp hne hso hol =>
          have P2 := Lib.hid (fun W F (R : Run w W F db S1) => putAll_any (Safe.old R HLB.out) R HT.out HFU.out (by have := HK30.out; omega) hp)
          have SO := Lib.hid (fun (W' : World) (hb' : Below w.heap.size w W') a n c (h : Bytes W' a n c o) => sum_box h (HT.out.below hb') (by omega) hso)
          have KEQ := Lib.hid (show ((strB o).toList == (strB lb).toList) = false by simp [str_eq, hne])
          clear hg hR hF hq hC hFU hS1 hd hs hp hne hso hol
          go_wp2_with (first
            | (go_at_call 9; (with_reducible refine (DW.out _ _ HR.out).mono ?_); rintro e _ ⟨rfl, rfl⟩)
            | (go_at_call 11; (with_reducible refine (AR.out _ _ HR.out).mono ?_); rintro e w3 ⟨rfl, hr3, _⟩; have R3 := Lib.hid hr3; clear hr3)
            | (go_at_call 12; (with_reducible refine (P2.out _ _ R3.out).mono ?_); rintro e w4 ⟨a5, n5, c5, F4, rfl, hsf, hr4, _, _⟩; have R4 := Lib.hid hr4; have HSF4 := Lib.hid hsf; clear hr4 hsf)
            | ((with_reducible show wpList _ _ _ (⟨some 9, _, _, _, _, _⟩ :: _) _ _); refine alloc_id rfl rfl ?_; intro w4b hid4 hb4 hs4; have HB4 := Lib.hid hb4; have HZ4 := Lib.hid hs4; clear hb4 hs4)
            | (refine store_id rfl (.tmp 9) (.tmp 50) rfl _ _ id rfl rfl hid4 HIL.out ?_; intro w5 hid5 hg5 hs5; have HB5 := Lib.hid (HB4.out.grown hg5 HB4.out.size (fun k hk => by cases hk; exact Nat.le_refl _)); have R5 := Lib.hid (R4.out.below HB5.out); have HSF5 := Lib.hid (HSF4.out.below HB5.out); have HI5 := Lib.hid hid5; clear hg5 hs5 hid4 hid5))
          refine wp_region_held_drew (S := fun W => Below w5.heap.size w5 W) (by kernel_rfl) (Below.refl _ _).drew (fun hHeld => ?_)
          refine wpAnyH_take (i := 0) (oi := ⟨some 55, .move (.tmp 10), _, _, _, _⟩) (v := (.slice a5 n5 c5)) rfl (by kernel_rfl) (by kernel_rfl) (by kernel_rfl) (fun _ _ _ h => h) (Or.inl ⟨by rfl, fun W hW => by go_simp⟩) (by assumption) ?_
          simp only [Act.put, List.setIfInBounds_toArray, List.set_cons_zero, List.set_cons_succ]
          refine wpAnyH_take (i := 1) (oi := ⟨some 56, .convert 23 9 (.tmp 55), _, _, _, _⟩) (v := (.string (strB o))) rfl (by kernel_rfl) (by kernel_rfl) (by kernel_rfl) (fun _ _ _ h => h) (Or.inl ⟨by rfl, fun W hW => by have hs := run_str ((HSF5.out.below hW).1) 9 Tryd.underlying9; go_simp⟩) (by assumption) ?_
          simp only [Act.put, List.setIfInBounds_toArray, List.set_cons_zero, List.set_cons_succ]
          refine wpAnyH_take (i := 2) (oi := ⟨some 57, .move (.tmp 1), _, _, _, _⟩) (v := (.slice a1 n1 c1)) rfl (by kernel_rfl) (by kernel_rfl) (by kernel_rfl) (fun _ _ _ h => h) (Or.inl ⟨by rfl, fun W hW => by go_simp⟩) (by assumption) ?_
          simp only [Act.put, List.setIfInBounds_toArray, List.set_cons_zero, List.set_cons_succ]
          refine wpAnyH_take (i := 3) (oi := ⟨some 58, .convert 23 9 (.tmp 57), _, _, _, _⟩) (v := (.string (strB lb))) rfl (by kernel_rfl) (by kernel_rfl) (by kernel_rfl) (fun _ _ _ h => h) (Or.inl ⟨by rfl, fun W hW => by have hs := run_str (HLB.out.below (R5.out.2.2.trans (hW.mono R5.out.2.2.size))) 9 Tryd.underlying9; go_simp⟩) (by assumption) ?_
          simp only [Act.put, List.setIfInBounds_toArray, List.set_cons_zero, List.set_cons_succ]
          refine wpAnyH_take (i := 4) (oi := ⟨some 59, .binOp .neq 9 (.tmp 56) (.tmp 58) 9, _, _, _, _⟩) (v := (.bool true)) rfl (by kernel_rfl) (by kernel_rfl) (by kernel_rfl) (fun _ _ _ h => h) (Or.inl ⟨by rfl, fun W hW => by have hk := KEQ.out; go_simp⟩) (by assumption) ?_
          simp only [Act.put, List.setIfInBounds_toArray, List.set_cons_zero, List.set_cons_succ]
          refine wpAnyH_take (i := 5) (oi := ⟨some 60, .move (.tmp 59), _, _, _, _⟩) (v := (.bool true)) rfl (by kernel_rfl) (by kernel_rfl) (by kernel_rfl) (fun _ _ _ h => h) (Or.inl ⟨by rfl, fun W hW => by go_simp⟩) (by assumption) ?_
          simp only [Act.put, List.setIfInBounds_toArray, List.set_cons_zero, List.set_cons_succ]
          refine wpAnyH_take (i := 6) (oi := ⟨some 61, .move (.tmp 10), _, _, _, _⟩) (v := (.slice a5 n5 c5)) rfl (by kernel_rfl) (by kernel_rfl) (by kernel_rfl) (fun _ _ _ h => h) (Or.inl ⟨by rfl, fun W hW => by go_simp⟩) (by assumption) ?_
          simp only [Act.put, List.setIfInBounds_toArray, List.set_cons_zero, List.set_cons_succ]
          refine wpAnyH_take (i := 9) (oi := ⟨some 64, .load 35 (.tmp 9), _, _, _, _⟩) (v := (.agg (idCells id))) rfl (by kernel_rfl) (by kernel_rfl) (by kernel_rfl) (fun _ _ _ h => h) (Or.inl ⟨by rfl, fun W hW => exec_loadId _ rfl _ _ _ HIL.out rfl (HI5.out.chg (X := fun _ => False) (Chg.of_below hW) (fun e => e)).range⟩) (by assumption) ?_
          simp only [Act.put, List.setIfInBounds_toArray, List.set_cons_zero, List.set_cons_succ]
          refine wpAnyH_ready (rs := [7]) (by kernel_rfl) (by simp) ?_
          refine AllReadyH.cons (o := ⟨some 62, .buildSlice 65 1 #[(0, (.tmp 61))], _, _, _, _⟩) rfl (fun K hK => ?_) AllReadyH.nil
          go_simp
          have HB6 := Lib.hid ((Below.refl w5.heap.size w5).drew.alloc (Nat.le_refl _) (.cells #[.slice a5 n5 c5] 23))
          refine hK.out _ _ HB6.out (fun hHeld => ?_)
          clear hK K
          refine wpAnyH_ready (rs := [8]) (by kernel_rfl) (by simp) ?_
          refine AllReadyH.cons (o := ⟨some 63, .call { callee := .value (.func 13), args := #[(.tmp 62)], argTypes := #[65] }, _, _, _, _⟩) rfl (fun K hK => ?_) AllReadyH.nil
          go_simp
          go_wp2_with (go_at_call 13; (refine (SO.out w5.drew R5.out.2.2.drew a5 n5 c5 HSF5.out.1).mono ?_); rintro e w7 ⟨rfl, hb7⟩; have HB7 : Hid (Below w5.heap.size w5 w7) := Lib.hid ((Below.refl w5.heap.size w5).drew.trans hb7); clear hb7)
          refine hK.out _ _ HB7.out (fun hHeld => ?_)
          clear hK K
          refine wpAnyH_take (i := 10) (oi := ⟨some 65, .binOp .eql 35 (.tmp 63) (.tmp 64) 35, _, _, _, _⟩) (v := (.bool true)) rfl (by kernel_rfl) (by kernel_rfl) (by kernel_rfl) (fun _ _ _ h => h) (Or.inl ⟨by rfl, fun W hW => exec_eqlSelf _ _ _ rfl id HIL.out rfl rfl⟩) (by assumption) ?_
          simp only [Act.put, List.setIfInBounds_toArray, List.set_cons_zero, List.set_cons_succ]
          refine wpAnyH_take (i := 11) (oi := ⟨some 66, .pick (.tmp 60) (.tmp 65) (.const (.bool false)), _, _, _, _⟩) (v := (.bool true)) rfl (by kernel_rfl) (by kernel_rfl) (by kernel_rfl) (fun _ _ _ h => h) (Or.inl ⟨by rfl, fun W hW => by go_simp⟩) (by assumption) ?_
          simp only [Act.put, List.setIfInBounds_toArray, List.set_cons_zero, List.set_cons_succ]
          refine wpAnyH_take (i := 12) (oi := ⟨some 67, .move (.tmp 66), _, _, _, _⟩) (v := (.bool true)) rfl (by kernel_rfl) (by kernel_rfl) (by kernel_rfl) (fun _ _ _ h => h) (Or.inl ⟨by rfl, fun W hW => by go_simp⟩) (by assumption) ?_
          simp only [Act.put, List.setIfInBounds_toArray, List.set_cons_zero, List.set_cons_succ]
          refine wpAnyH_take (i := 13) (oi := ⟨some 68, .move (.tmp 1), _, _, _, _⟩) (v := (.slice a1 n1 c1)) rfl (by kernel_rfl) (by kernel_rfl) (by kernel_rfl) (fun _ _ _ h => h) (Or.inl ⟨by rfl, fun W hW => by go_simp⟩) (by assumption) ?_
          simp only [Act.put, List.setIfInBounds_toArray, List.set_cons_zero, List.set_cons_succ]
          refine wpAnyH_take (i := 16) (oi := ⟨some 71, .load 35 (.tmp 9), _, _, _, _⟩) (v := (.agg (idCells id))) rfl (by kernel_rfl) (by kernel_rfl) (by kernel_rfl) (fun _ _ _ h => h) (Or.inl ⟨by rfl, fun W hW => exec_loadId _ rfl _ _ _ HIL.out rfl (HI5.out.chg (X := fun _ => False) (Chg.of_below hW) (fun e => e)).range⟩) (by assumption) ?_
          simp only [Act.put, List.setIfInBounds_toArray, List.set_cons_zero, List.set_cons_succ]
          refine wpAnyH_ready (rs := [14]) (by kernel_rfl) (by simp) ?_
          refine AllReadyH.cons (o := ⟨some 69, .buildSlice 65 1 #[(0, (.tmp 68))], _, _, _, _⟩) rfl (fun K hK => ?_) AllReadyH.nil
          go_simp
          have HB8 := Lib.hid (HB7.out.alloc HB7.out.size (.cells #[.slice a1 n1 c1] 23))
          refine hK.out _ _ HB8.out (fun hHeld => ?_)
          clear hK K
          refine wpAnyH_ready (rs := [15]) (by kernel_rfl) (by simp) ?_
          refine AllReadyH.cons (o := ⟨some 70, .call { callee := .value (.func 13), args := #[(.tmp 69)], argTypes := #[65] }, _, _, _, _⟩) rfl (fun K hK => ?_) AllReadyH.nil
          go_simp
          go_wp2_with (go_at_call 13; (refine (SB.out w7 (R5.out.2.2.trans (HB7.out.mono R5.out.2.2.size)) a1 n1 c1 (HLB.out.below (R5.out.2.2.trans (HB7.out.mono R5.out.2.2.size)))).mono ?_); rintro e w9 ⟨rfl, hb9⟩; have HB9 : Hid (Below w5.heap.size w5 w9) := Lib.hid (HB7.out.trans (hb9.mono HB7.out.size)); clear hb9)
          refine hK.out _ _ HB9.out (fun hHeld => ?_)
          clear hK K
          refine wpAnyH_take (i := 17) (oi := ⟨some 72, .binOp .eql 35 (.tmp 70) (.tmp 71) 35, _, _, _, _⟩) (v := (.bool true)) rfl (by kernel_rfl) (by kernel_rfl) (by kernel_rfl) (fun _ _ _ h => h) (Or.inl ⟨by rfl, fun W hW => exec_eqlSelf _ _ _ rfl id HIL.out rfl rfl⟩) (by assumption) ?_
          simp only [Act.put, List.setIfInBounds_toArray, List.set_cons_zero, List.set_cons_succ]
          refine wpAnyH_take (i := 18) (oi := ⟨some 73, .pick (.tmp 67) (.tmp 72) (.const (.bool false)), _, _, _, _⟩) (v := (.bool true)) rfl (by kernel_rfl) (by kernel_rfl) (by kernel_rfl) (fun _ _ _ h => h) (Or.inl ⟨by rfl, fun W hW => by go_simp⟩) (by assumption) ?_
          simp only [Act.put, List.setIfInBounds_toArray, List.set_cons_zero, List.set_cons_succ]
          refine wpAnyH_take (i := 19) (oi := ⟨some 6, .assign (.tmp 73), _, _, _, _⟩) (v := (.bool true)) rfl (by kernel_rfl) (by kernel_rfl) (by kernel_rfl) (fun _ _ _ h => h) (Or.inl ⟨by rfl, fun W hW => by go_simp⟩) (by assumption) ?_
          simp only [Act.put, List.setIfInBounds_toArray, List.set_cons_zero, List.set_cons_succ]
          refine wpAnyH_done (by kernel_rfl) ?_ _
          go_wp2
          go_ret
          exact ⟨rfl, R5.out.2.2.trans (HB9.out.mono R5.out.2.2.size)⟩
        | kept S2 S3 hp hcr hgt =>
          have P2 := Lib.hid (fun W F (R : Run w W F db S1) => putAll_any (Safe.old R HLB.out) R HT.out HFU.out (by have := HK30.out; omega) hp)
          have hf2 := (put_ok (H := sumF) HC.out.inv HFU.out lb).2
          rw [hp] at hf2
          have CK := Lib.hid (fun W F (R : Run w W F db S2) => lo_crash2 R hf2 (by have := HK30.out; omega) HF.out HZ.out hcr)
          have GT := Lib.hid (fun W F (R : Run w W F db S3) => get_any id HIL.out R HT.out hgt)
          clear hg hR hF hq hC hFU hS1 hd hs hp hcr hgt hf2
          go_wp2_with (first
            | (go_at_call 9; (with_reducible refine (DW.out _ _ HR.out).mono ?_); rintro e _ ⟨rfl, rfl⟩)
            | (go_at_call 10; (with_reducible refine (CK.out _ _ R5.out).mono ?_); rintro e w6 ⟨rfl, F6, hr6, hs6⟩; have R6 := Lib.hid hr6; have HI6 := Lib.hid (HI5.out.chg hs6.chg (fun h => by have := R4.out.1.lt _ h; omega)); clear hr6 hs6)
            | (go_at_call 11; (with_reducible refine (AR.out _ _ HR.out).mono ?_); rintro e w3 ⟨rfl, hr3, _⟩; have R3 := Lib.hid hr3; clear hr3)
            | (go_at_call 12; (with_reducible refine (P2.out _ _ R3.out).mono ?_); rintro e w4 ⟨a5, n5, c5, F4, rfl, hsf, hr4, _, _⟩; have R4 := Lib.hid hr4; have HSF4 := Lib.hid hsf; clear hr4 hsf)
            | ((with_reducible show wpList _ _ _ (⟨some 9, _, _, _, _, _⟩ :: _) _ _); refine alloc_id rfl rfl ?_; intro w4b hid4 hb4 hs4; have HB4 := Lib.hid hb4; have HZ4 := Lib.hid hs4; clear hb4 hs4)
            | (refine store_id rfl (.tmp 9) (.tmp 50) rfl _ _ id rfl rfl hid4 HIL.out ?_; intro w5 hid5 hg5 hs5; have HB5 := Lib.hid (HB4.out.grown hg5 HB4.out.size (fun k hk => by cases hk; exact Nat.le_refl _)); have R5 := Lib.hid (R4.out.below HB5.out); have HSF5 := Lib.hid (HSF4.out.below HB5.out); have HI5 := Lib.hid hid5; clear hg5 hs5 hid4 hid5)
            | ((with_reducible show wpList _ _ _ (⟨some 79, _, _, _, _, _⟩ :: _) _ _); refine load_id rfl (.tmp 9) rfl _ _ rfl HI6.out ?_)
            | (go_at_call 14; (with_reducible refine (GT.out _ _ R6.out).mono ?_); rintro e w8 ⟨a8, n8, c8, rfl, hsf8, hr8, hb8⟩; have R8 := Lib.hid hr8; have HSF8 := Lib.hid hsf8; have HI8 := Lib.hid (HI6.out.chg (X := fun _ => False) (Chg.of_below hb8) (fun e => e)); clear hsf8 hr8 hb8))
          refine wp_region_held_drew (S := fun W => Below w8.heap.size w8 W) (by kernel_rfl) (Below.refl _ _).drew (fun hHeld => ?_)
          refine wpAnyH_take (i := 0) (oi := ⟨some 83, .move (.tmp 11), _, _, _, _⟩) (v := (.int .i64 0)) rfl (by kernel_rfl) (by kernel_rfl) (by kernel_rfl) (fun _ _ _ h => h) (Or.inl ⟨by rfl, fun W hW => by go_simp⟩) (by assumption) ?_
          simp only [Act.put, List.setIfInBounds_toArray, List.set_cons_zero, List.set_cons_succ]
          refine wpAnyH_take (i := 1) (oi := ⟨some 84, .binOp .eql 36 (.tmp 83) (.const (.int .i64 0)) 36, _, _, _, _⟩) (v := (.bool true)) rfl (by kernel_rfl) (by kernel_rfl) (by kernel_rfl) (fun _ _ _ h => h) (Or.inl ⟨by rfl, fun W hW => by go_simp⟩) (by assumption) ?_
          simp only [Act.put, List.setIfInBounds_toArray, List.set_cons_zero, List.set_cons_succ]
          refine wpAnyH_take (i := 2) (oi := ⟨some 85, .move (.tmp 84), _, _, _, _⟩) (v := (.bool true)) rfl (by kernel_rfl) (by kernel_rfl) (by kernel_rfl) (fun _ _ _ h => h) (Or.inl ⟨by rfl, fun W hW => by go_simp⟩) (by assumption) ?_
          simp only [Act.put, List.setIfInBounds_toArray, List.set_cons_zero, List.set_cons_succ]
          refine wpAnyH_take (i := 3) (oi := ⟨some 86, .move (.tmp 13), _, _, _, _⟩) (v := (.int .i64 0)) rfl (by kernel_rfl) (by kernel_rfl) (by kernel_rfl) (fun _ _ _ h => h) (Or.inl ⟨by rfl, fun W hW => by go_simp⟩) (by assumption) ?_
          simp only [Act.put, List.setIfInBounds_toArray, List.set_cons_zero, List.set_cons_succ]
          refine wpAnyH_take (i := 4) (oi := ⟨some 87, .binOp .eql 36 (.tmp 86) (.const (.int .i64 0)) 36, _, _, _, _⟩) (v := (.bool true)) rfl (by kernel_rfl) (by kernel_rfl) (by kernel_rfl) (fun _ _ _ h => h) (Or.inl ⟨by rfl, fun W hW => by go_simp⟩) (by assumption) ?_
          simp only [Act.put, List.setIfInBounds_toArray, List.set_cons_zero, List.set_cons_succ]
          refine wpAnyH_take (i := 5) (oi := ⟨some 88, .pick (.tmp 85) (.tmp 87) (.const (.bool false)), _, _, _, _⟩) (v := (.bool true)) rfl (by kernel_rfl) (by kernel_rfl) (by kernel_rfl) (fun _ _ _ h => h) (Or.inl ⟨by rfl, fun W hW => by go_simp⟩) (by assumption) ?_
          simp only [Act.put, List.setIfInBounds_toArray, List.set_cons_zero, List.set_cons_succ]
          refine wpAnyH_take (i := 6) (oi := ⟨some 89, .move (.tmp 88), _, _, _, _⟩) (v := (.bool true)) rfl (by kernel_rfl) (by kernel_rfl) (by kernel_rfl) (fun _ _ _ h => h) (Or.inl ⟨by rfl, fun W hW => by go_simp⟩) (by assumption) ?_
          simp only [Act.put, List.setIfInBounds_toArray, List.set_cons_zero, List.set_cons_succ]
          refine wpAnyH_take (i := 7) (oi := ⟨some 90, .move (.tmp 12), _, _, _, _⟩) (v := (.slice a8 n8 c8)) rfl (by kernel_rfl) (by kernel_rfl) (by kernel_rfl) (fun _ _ _ h => h) (Or.inl ⟨by rfl, fun W hW => by go_simp⟩) (by assumption) ?_
          simp only [Act.put, List.setIfInBounds_toArray, List.set_cons_zero, List.set_cons_succ]
          refine wpAnyH_take (i := 8) (oi := ⟨some 91, .convert 23 9 (.tmp 90), _, _, _, _⟩) (v := (.string (strB lb))) rfl (by kernel_rfl) (by kernel_rfl) (by kernel_rfl) (fun _ _ _ h => h) (Or.inl ⟨by rfl, fun W hW => by have hs := run_str ((HSF8.out.below hW).1) 9 Tryd.underlying9; go_simp⟩) (by assumption) ?_
          simp only [Act.put, List.setIfInBounds_toArray, List.set_cons_zero, List.set_cons_succ]
          refine wpAnyH_take (i := 9) (oi := ⟨some 92, .move (.tmp 1), _, _, _, _⟩) (v := (.slice a1 n1 c1)) rfl (by kernel_rfl) (by kernel_rfl) (by kernel_rfl) (fun _ _ _ h => h) (Or.inl ⟨by rfl, fun W hW => by go_simp⟩) (by assumption) ?_
          simp only [Act.put, List.setIfInBounds_toArray, List.set_cons_zero, List.set_cons_succ]
          refine wpAnyH_take (i := 10) (oi := ⟨some 93, .convert 23 9 (.tmp 92), _, _, _, _⟩) (v := (.string (strB lb))) rfl (by kernel_rfl) (by kernel_rfl) (by kernel_rfl) (fun _ _ _ h => h) (Or.inl ⟨by rfl, fun W hW => by have hs := run_str (HLB.out.below (R8.out.2.2.trans (hW.mono R8.out.2.2.size))) 9 Tryd.underlying9; go_simp⟩) (by assumption) ?_
          simp only [Act.put, List.setIfInBounds_toArray, List.set_cons_zero, List.set_cons_succ]
          refine wpAnyH_take (i := 11) (oi := ⟨some 94, .binOp .eql 9 (.tmp 91) (.tmp 93) 9, _, _, _, _⟩) (v := (.bool true)) rfl (by kernel_rfl) (by kernel_rfl) (by kernel_rfl) (fun _ _ _ h => h) (Or.inl ⟨by rfl, fun W hW => by go_simp⟩) (by assumption) ?_
          simp only [Act.put, List.setIfInBounds_toArray, List.set_cons_zero, List.set_cons_succ]
          refine wpAnyH_take (i := 12) (oi := ⟨some 95, .pick (.tmp 89) (.tmp 94) (.const (.bool false)), _, _, _, _⟩) (v := (.bool true)) rfl (by kernel_rfl) (by kernel_rfl) (by kernel_rfl) (fun _ _ _ h => h) (Or.inl ⟨by rfl, fun W hW => by go_simp⟩) (by assumption) ?_
          simp only [Act.put, List.setIfInBounds_toArray, List.set_cons_zero, List.set_cons_succ]
          refine wpAnyH_take (i := 13) (oi := ⟨some 96, .move (.tmp 95), _, _, _, _⟩) (v := (.bool true)) rfl (by kernel_rfl) (by kernel_rfl) (by kernel_rfl) (fun _ _ _ h => h) (Or.inl ⟨by rfl, fun W hW => by go_simp⟩) (by assumption) ?_
          simp only [Act.put, List.setIfInBounds_toArray, List.set_cons_zero, List.set_cons_succ]
          refine wpAnyH_take (i := 14) (oi := ⟨some 97, .load 35 (.tmp 9), _, _, _, _⟩) (v := (.agg (idCells id))) rfl (by kernel_rfl) (by kernel_rfl) (by kernel_rfl) (fun _ _ _ h => h) (Or.inl ⟨by rfl, fun W hW => exec_loadId _ rfl _ _ _ HIL.out rfl (HI8.out.chg (X := fun _ => False) (Chg.of_below hW) (fun e => e)).range⟩) (by assumption) ?_
          simp only [Act.put, List.setIfInBounds_toArray, List.set_cons_zero, List.set_cons_succ]
          refine wpAnyH_take (i := 15) (oi := ⟨some 98, .move (.tmp 1), _, _, _, _⟩) (v := (.slice a1 n1 c1)) rfl (by kernel_rfl) (by kernel_rfl) (by kernel_rfl) (fun _ _ _ h => h) (Or.inl ⟨by rfl, fun W hW => by go_simp⟩) (by assumption) ?_
          simp only [Act.put, List.setIfInBounds_toArray, List.set_cons_zero, List.set_cons_succ]
          refine wpAnyH_ready (rs := [16]) (by kernel_rfl) (by simp) ?_
          refine AllReadyH.cons (o := ⟨some 99, .buildSlice 65 1 #[(0, (.tmp 98))], _, _, _, _⟩) rfl (fun K hK => ?_) AllReadyH.nil
          go_simp
          have HB9 := Lib.hid ((Below.refl w8.heap.size w8).drew.alloc (Nat.le_refl _) (.cells #[.slice a1 n1 c1] 23))
          refine hK.out _ _ HB9.out (fun hHeld => ?_)
          clear hK K
          refine wpAnyH_ready (rs := [17]) (by kernel_rfl) (by simp) ?_
          refine AllReadyH.cons (o := ⟨some 100, .call { callee := .value (.func 13), args := #[(.tmp 99)], argTypes := #[65] }, _, _, _, _⟩) rfl (fun K hK => ?_) AllReadyH.nil
          go_simp
          go_wp2_with (go_at_call 13; (refine (SB.out w8.drew R8.out.2.2.drew a1 n1 c1 (HLB.out.below R8.out.2.2.drew)).mono ?_); rintro e w10 ⟨rfl, hb10⟩; have HB10 : Hid (Below w8.heap.size w8 w10) := Lib.hid ((Below.refl w8.heap.size w8).drew.trans hb10); clear hb10)
          refine hK.out _ _ HB10.out (fun hHeld => ?_)
          clear hK K
          refine wpAnyH_take (i := 18) (oi := ⟨some 101, .binOp .eql 35 (.tmp 97) (.tmp 100) 35, _, _, _, _⟩) (v := (.bool true)) rfl (by kernel_rfl) (by kernel_rfl) (by kernel_rfl) (fun _ _ _ h => h) (Or.inl ⟨by rfl, fun W hW => exec_eqlSelf _ _ _ rfl id HIL.out rfl rfl⟩) (by assumption) ?_
          simp only [Act.put, List.setIfInBounds_toArray, List.set_cons_zero, List.set_cons_succ]
          refine wpAnyH_take (i := 19) (oi := ⟨some 102, .pick (.tmp 96) (.tmp 101) (.const (.bool false)), _, _, _, _⟩) (v := (.bool true)) rfl (by kernel_rfl) (by kernel_rfl) (by kernel_rfl) (fun _ _ _ h => h) (Or.inl ⟨by rfl, fun W hW => by go_simp⟩) (by assumption) ?_
          simp only [Act.put, List.setIfInBounds_toArray, List.set_cons_zero, List.set_cons_succ]
          refine wpAnyH_take (i := 20) (oi := ⟨some 103, .move (.tmp 102), _, _, _, _⟩) (v := (.bool true)) rfl (by kernel_rfl) (by kernel_rfl) (by kernel_rfl) (fun _ _ _ h => h) (Or.inl ⟨by rfl, fun W hW => by go_simp⟩) (by assumption) ?_
          simp only [Act.put, List.setIfInBounds_toArray, List.set_cons_zero, List.set_cons_succ]
          refine wpAnyH_ready (rs := [21]) (by kernel_rfl) (by simp) ?_
          refine AllReadyH.cons (o := ⟨some 104, .call { callee := .value (.func 15), args := #[], argTypes := #[] }, _, _, _, _⟩) rfl (fun K hK => ?_) AllReadyH.nil
          go_simp
          go_wp2_with (go_at_call 15; (refine (AW.out w10 (R8.out.2.2.trans (HB10.out.mono R8.out.2.2.size))).mono ?_); rintro e w11 ⟨rfl, hb11⟩; have HB11 : Hid (Below w8.heap.size w8 w11) := Lib.hid (HB10.out.trans (hb11.mono HB10.out.size)); clear hb11)
          refine hK.out _ _ HB11.out (fun hHeld => ?_)
          clear hK K
          refine wpAnyH_take (i := 22) (oi := ⟨some 105, .pick (.tmp 103) (.tmp 104) (.const (.bool false)), _, _, _, _⟩) (v := (.bool true)) rfl (by kernel_rfl) (by kernel_rfl) (by kernel_rfl) (fun _ _ _ h => h) (Or.inl ⟨by rfl, fun W hW => by go_simp⟩) (by assumption) ?_
          simp only [Act.put, List.setIfInBounds_toArray, List.set_cons_zero, List.set_cons_succ]
          refine wpAnyH_take (i := 23) (oi := ⟨some 6, .assign (.tmp 105), _, _, _, _⟩) (v := (.bool true)) rfl (by kernel_rfl) (by kernel_rfl) (by kernel_rfl) (fun _ _ _ h => h) (Or.inl ⟨by rfl, fun W hW => by go_simp⟩) (by assumption) ?_
          simp only [Act.put, List.setIfInBounds_toArray, List.set_cons_zero, List.set_cons_succ]
          refine wpAnyH_done (by kernel_rfl) ?_ _
          go_wp2
          go_ret
          exact ⟨rfl, R8.out.2.2.trans (HB11.out.mono R8.out.2.2.size)⟩
      | true =>
        have hs : setArm (crashS S []) 0 = S1 := by rw [← HS1.out]; unfold upL; rw [hd]; rfl
        have DW := Lib.hid (fun W F (R : Run w W F db S) => lo_down R hd)
        have C0 := Lib.hid (fun W F (R : Run w W F db S) => lo_crash R hF (by have := HK30.out; omega) (fs := []) (a := none) (n := 0) (c := 0) At1.nil (fun h => by omega) (fun z hz => by cases hz) (S2 := crashS S []) rfl)
        have AR := Lib.hid (fun W F (R : Run w W F db (crashS S [])) => lo_arm R (z := 0) (by omega) hs)
        cases hk with
        | two o hp hne hso hol =>
          have P2 := Lib.hid (fun W F (R : Run w W F db S1) => putAll_any (Safe.old R HLB.out) R HT.out HFU.out (by have := HK30.out; omega) hp)
          have SO := Lib.hid (fun (W' : World) (hb' : Below w.heap.size w W') a n c (h : Bytes W' a n c o) => sum_box h (HT.out.below hb') (by omega) hso)
          have KEQ := Lib.hid (show ((strB o).toList == (strB lb).toList) = false by simp [str_eq, hne])
          clear hg hR hF hq hC hFU hS1 hd hs hp hne hso hol
          go_wp2_with (first
            | (go_at_call 9; (with_reducible refine (DW.out _ _ HR.out).mono ?_); rintro e _ ⟨rfl, rfl⟩)
            | (go_at_call 10; (with_reducible refine (C0.out _ _ HR.out).mono ?_); rintro e w2 ⟨rfl, F2, hr2, _⟩; have R2 := Lib.hid hr2; clear hr2)
            | (go_at_call 11; (with_reducible refine (AR.out _ _ R2.out).mono ?_); rintro e w3 ⟨rfl, hr3, _⟩; have R3 := Lib.hid hr3; clear hr3)
            | (go_at_call 12; (with_reducible refine (P2.out _ _ R3.out).mono ?_); rintro e w4 ⟨a5, n5, c5, F4, rfl, hsf, hr4, _, _⟩; have R4 := Lib.hid hr4; have HSF4 := Lib.hid hsf; clear hr4 hsf)
            | ((with_reducible show wpList _ _ _ (⟨some 9, _, _, _, _, _⟩ :: _) _ _); refine alloc_id rfl rfl ?_; intro w4b hid4 hb4 hs4; have HB4 := Lib.hid hb4; have HZ4 := Lib.hid hs4; clear hb4 hs4)
            | (refine store_id rfl (.tmp 9) (.tmp 50) rfl _ _ id rfl rfl hid4 HIL.out ?_; intro w5 hid5 hg5 hs5; have HB5 := Lib.hid (HB4.out.grown hg5 HB4.out.size (fun k hk => by cases hk; exact Nat.le_refl _)); have R5 := Lib.hid (R4.out.below HB5.out); have HSF5 := Lib.hid (HSF4.out.below HB5.out); have HI5 := Lib.hid hid5; clear hg5 hs5 hid4 hid5))
          refine wp_region_held_drew (S := fun W => Below w5.heap.size w5 W) (by kernel_rfl) (Below.refl _ _).drew (fun hHeld => ?_)
          refine wpAnyH_take (i := 0) (oi := ⟨some 55, .move (.tmp 10), _, _, _, _⟩) (v := (.slice a5 n5 c5)) rfl (by kernel_rfl) (by kernel_rfl) (by kernel_rfl) (fun _ _ _ h => h) (Or.inl ⟨by rfl, fun W hW => by go_simp⟩) (by assumption) ?_
          simp only [Act.put, List.setIfInBounds_toArray, List.set_cons_zero, List.set_cons_succ]
          refine wpAnyH_take (i := 1) (oi := ⟨some 56, .convert 23 9 (.tmp 55), _, _, _, _⟩) (v := (.string (strB o))) rfl (by kernel_rfl) (by kernel_rfl) (by kernel_rfl) (fun _ _ _ h => h) (Or.inl ⟨by rfl, fun W hW => by have hs := run_str ((HSF5.out.below hW).1) 9 Tryd.underlying9; go_simp⟩) (by assumption) ?_
          simp only [Act.put, List.setIfInBounds_toArray, List.set_cons_zero, List.set_cons_succ]
          refine wpAnyH_take (i := 2) (oi := ⟨some 57, .move (.tmp 1), _, _, _, _⟩) (v := (.slice a1 n1 c1)) rfl (by kernel_rfl) (by kernel_rfl) (by kernel_rfl) (fun _ _ _ h => h) (Or.inl ⟨by rfl, fun W hW => by go_simp⟩) (by assumption) ?_
          simp only [Act.put, List.setIfInBounds_toArray, List.set_cons_zero, List.set_cons_succ]
          refine wpAnyH_take (i := 3) (oi := ⟨some 58, .convert 23 9 (.tmp 57), _, _, _, _⟩) (v := (.string (strB lb))) rfl (by kernel_rfl) (by kernel_rfl) (by kernel_rfl) (fun _ _ _ h => h) (Or.inl ⟨by rfl, fun W hW => by have hs := run_str (HLB.out.below (R5.out.2.2.trans (hW.mono R5.out.2.2.size))) 9 Tryd.underlying9; go_simp⟩) (by assumption) ?_
          simp only [Act.put, List.setIfInBounds_toArray, List.set_cons_zero, List.set_cons_succ]
          refine wpAnyH_take (i := 4) (oi := ⟨some 59, .binOp .neq 9 (.tmp 56) (.tmp 58) 9, _, _, _, _⟩) (v := (.bool true)) rfl (by kernel_rfl) (by kernel_rfl) (by kernel_rfl) (fun _ _ _ h => h) (Or.inl ⟨by rfl, fun W hW => by have hk := KEQ.out; go_simp⟩) (by assumption) ?_
          simp only [Act.put, List.setIfInBounds_toArray, List.set_cons_zero, List.set_cons_succ]
          refine wpAnyH_take (i := 5) (oi := ⟨some 60, .move (.tmp 59), _, _, _, _⟩) (v := (.bool true)) rfl (by kernel_rfl) (by kernel_rfl) (by kernel_rfl) (fun _ _ _ h => h) (Or.inl ⟨by rfl, fun W hW => by go_simp⟩) (by assumption) ?_
          simp only [Act.put, List.setIfInBounds_toArray, List.set_cons_zero, List.set_cons_succ]
          refine wpAnyH_take (i := 6) (oi := ⟨some 61, .move (.tmp 10), _, _, _, _⟩) (v := (.slice a5 n5 c5)) rfl (by kernel_rfl) (by kernel_rfl) (by kernel_rfl) (fun _ _ _ h => h) (Or.inl ⟨by rfl, fun W hW => by go_simp⟩) (by assumption) ?_
          simp only [Act.put, List.setIfInBounds_toArray, List.set_cons_zero, List.set_cons_succ]
          refine wpAnyH_take (i := 9) (oi := ⟨some 64, .load 35 (.tmp 9), _, _, _, _⟩) (v := (.agg (idCells id))) rfl (by kernel_rfl) (by kernel_rfl) (by kernel_rfl) (fun _ _ _ h => h) (Or.inl ⟨by rfl, fun W hW => exec_loadId _ rfl _ _ _ HIL.out rfl (HI5.out.chg (X := fun _ => False) (Chg.of_below hW) (fun e => e)).range⟩) (by assumption) ?_
          simp only [Act.put, List.setIfInBounds_toArray, List.set_cons_zero, List.set_cons_succ]
          refine wpAnyH_ready (rs := [7]) (by kernel_rfl) (by simp) ?_
          refine AllReadyH.cons (o := ⟨some 62, .buildSlice 65 1 #[(0, (.tmp 61))], _, _, _, _⟩) rfl (fun K hK => ?_) AllReadyH.nil
          go_simp
          have HB6 := Lib.hid ((Below.refl w5.heap.size w5).drew.alloc (Nat.le_refl _) (.cells #[.slice a5 n5 c5] 23))
          refine hK.out _ _ HB6.out (fun hHeld => ?_)
          clear hK K
          refine wpAnyH_ready (rs := [8]) (by kernel_rfl) (by simp) ?_
          refine AllReadyH.cons (o := ⟨some 63, .call { callee := .value (.func 13), args := #[(.tmp 62)], argTypes := #[65] }, _, _, _, _⟩) rfl (fun K hK => ?_) AllReadyH.nil
          go_simp
          go_wp2_with (go_at_call 13; (refine (SO.out w5.drew R5.out.2.2.drew a5 n5 c5 HSF5.out.1).mono ?_); rintro e w7 ⟨rfl, hb7⟩; have HB7 : Hid (Below w5.heap.size w5 w7) := Lib.hid ((Below.refl w5.heap.size w5).drew.trans hb7); clear hb7)
          refine hK.out _ _ HB7.out (fun hHeld => ?_)
          clear hK K
          refine wpAnyH_take (i := 10) (oi := ⟨some 65, .binOp .eql 35 (.tmp 63) (.tmp 64) 35, _, _, _, _⟩) (v := (.bool true)) rfl (by kernel_rfl) (by kernel_rfl) (by kernel_rfl) (fun _ _ _ h => h) (Or.inl ⟨by rfl, fun W hW => exec_eqlSelf _ _ _ rfl id HIL.out rfl rfl⟩) (by assumption) ?_
          simp only [Act.put, List.setIfInBounds_toArray, List.set_cons_zero, List.set_cons_succ]
          refine wpAnyH_take (i := 11) (oi := ⟨some 66, .pick (.tmp 60) (.tmp 65) (.const (.bool false)), _, _, _, _⟩) (v := (.bool true)) rfl (by kernel_rfl) (by kernel_rfl) (by kernel_rfl) (fun _ _ _ h => h) (Or.inl ⟨by rfl, fun W hW => by go_simp⟩) (by assumption) ?_
          simp only [Act.put, List.setIfInBounds_toArray, List.set_cons_zero, List.set_cons_succ]
          refine wpAnyH_take (i := 12) (oi := ⟨some 67, .move (.tmp 66), _, _, _, _⟩) (v := (.bool true)) rfl (by kernel_rfl) (by kernel_rfl) (by kernel_rfl) (fun _ _ _ h => h) (Or.inl ⟨by rfl, fun W hW => by go_simp⟩) (by assumption) ?_
          simp only [Act.put, List.setIfInBounds_toArray, List.set_cons_zero, List.set_cons_succ]
          refine wpAnyH_take (i := 13) (oi := ⟨some 68, .move (.tmp 1), _, _, _, _⟩) (v := (.slice a1 n1 c1)) rfl (by kernel_rfl) (by kernel_rfl) (by kernel_rfl) (fun _ _ _ h => h) (Or.inl ⟨by rfl, fun W hW => by go_simp⟩) (by assumption) ?_
          simp only [Act.put, List.setIfInBounds_toArray, List.set_cons_zero, List.set_cons_succ]
          refine wpAnyH_take (i := 16) (oi := ⟨some 71, .load 35 (.tmp 9), _, _, _, _⟩) (v := (.agg (idCells id))) rfl (by kernel_rfl) (by kernel_rfl) (by kernel_rfl) (fun _ _ _ h => h) (Or.inl ⟨by rfl, fun W hW => exec_loadId _ rfl _ _ _ HIL.out rfl (HI5.out.chg (X := fun _ => False) (Chg.of_below hW) (fun e => e)).range⟩) (by assumption) ?_
          simp only [Act.put, List.setIfInBounds_toArray, List.set_cons_zero, List.set_cons_succ]
          refine wpAnyH_ready (rs := [14]) (by kernel_rfl) (by simp) ?_
          refine AllReadyH.cons (o := ⟨some 69, .buildSlice 65 1 #[(0, (.tmp 68))], _, _, _, _⟩) rfl (fun K hK => ?_) AllReadyH.nil
          go_simp
          have HB8 := Lib.hid (HB7.out.alloc HB7.out.size (.cells #[.slice a1 n1 c1] 23))
          refine hK.out _ _ HB8.out (fun hHeld => ?_)
          clear hK K
          refine wpAnyH_ready (rs := [15]) (by kernel_rfl) (by simp) ?_
          refine AllReadyH.cons (o := ⟨some 70, .call { callee := .value (.func 13), args := #[(.tmp 69)], argTypes := #[65] }, _, _, _, _⟩) rfl (fun K hK => ?_) AllReadyH.nil
          go_simp
          go_wp2_with (go_at_call 13; (refine (SB.out w7 (R5.out.2.2.trans (HB7.out.mono R5.out.2.2.size)) a1 n1 c1 (HLB.out.below (R5.out.2.2.trans (HB7.out.mono R5.out.2.2.size)))).mono ?_); rintro e w9 ⟨rfl, hb9⟩; have HB9 : Hid (Below w5.heap.size w5 w9) := Lib.hid (HB7.out.trans (hb9.mono HB7.out.size)); clear hb9)
          refine hK.out _ _ HB9.out (fun hHeld => ?_)
          clear hK K
          refine wpAnyH_take (i := 17) (oi := ⟨some 72, .binOp .eql 35 (.tmp 70) (.tmp 71) 35, _, _, _, _⟩) (v := (.bool true)) rfl (by kernel_rfl) (by kernel_rfl) (by kernel_rfl) (fun _ _ _ h => h) (Or.inl ⟨by rfl, fun W hW => exec_eqlSelf _ _ _ rfl id HIL.out rfl rfl⟩) (by assumption) ?_
          simp only [Act.put, List.setIfInBounds_toArray, List.set_cons_zero, List.set_cons_succ]
          refine wpAnyH_take (i := 18) (oi := ⟨some 73, .pick (.tmp 67) (.tmp 72) (.const (.bool false)), _, _, _, _⟩) (v := (.bool true)) rfl (by kernel_rfl) (by kernel_rfl) (by kernel_rfl) (fun _ _ _ h => h) (Or.inl ⟨by rfl, fun W hW => by go_simp⟩) (by assumption) ?_
          simp only [Act.put, List.setIfInBounds_toArray, List.set_cons_zero, List.set_cons_succ]
          refine wpAnyH_take (i := 19) (oi := ⟨some 6, .assign (.tmp 73), _, _, _, _⟩) (v := (.bool true)) rfl (by kernel_rfl) (by kernel_rfl) (by kernel_rfl) (fun _ _ _ h => h) (Or.inl ⟨by rfl, fun W hW => by go_simp⟩) (by assumption) ?_
          simp only [Act.put, List.setIfInBounds_toArray, List.set_cons_zero, List.set_cons_succ]
          refine wpAnyH_done (by kernel_rfl) ?_ _
          go_wp2
          go_ret
          exact ⟨rfl, R5.out.2.2.trans (HB9.out.mono R5.out.2.2.size)⟩
        | kept S2 S3 hp hcr hgt =>
          have P2 := Lib.hid (fun W F (R : Run w W F db S1) => putAll_any (Safe.old R HLB.out) R HT.out HFU.out (by have := HK30.out; omega) hp)
          have hf2 := (put_ok (H := sumF) HC.out.inv HFU.out lb).2
          rw [hp] at hf2
          have CK := Lib.hid (fun W F (R : Run w W F db S2) => lo_crash2 R hf2 (by have := HK30.out; omega) HF.out HZ.out hcr)
          have GT := Lib.hid (fun W F (R : Run w W F db S3) => get_any id HIL.out R HT.out hgt)
          clear hg hR hF hq hC hFU hS1 hd hs hp hcr hgt hf2
          go_wp2_with (first
            | (go_at_call 9; (with_reducible refine (DW.out _ _ HR.out).mono ?_); rintro e _ ⟨rfl, rfl⟩)
            | (go_at_call 10; (with_reducible refine (CK.out _ _ R5.out).mono ?_); rintro e w6 ⟨rfl, F6, hr6, hs6⟩; have R6 := Lib.hid hr6; have HI6 := Lib.hid (HI5.out.chg hs6.chg (fun h => by have := R4.out.1.lt _ h; omega)); clear hr6 hs6)
            | (go_at_call 10; (with_reducible refine (C0.out _ _ HR.out).mono ?_); rintro e w2 ⟨rfl, F2, hr2, _⟩; have R2 := Lib.hid hr2; clear hr2)
            | (go_at_call 11; (with_reducible refine (AR.out _ _ R2.out).mono ?_); rintro e w3 ⟨rfl, hr3, _⟩; have R3 := Lib.hid hr3; clear hr3)
            | (go_at_call 12; (with_reducible refine (P2.out _ _ R3.out).mono ?_); rintro e w4 ⟨a5, n5, c5, F4, rfl, hsf, hr4, _, _⟩; have R4 := Lib.hid hr4; have HSF4 := Lib.hid hsf; clear hr4 hsf)
            | ((with_reducible show wpList _ _ _ (⟨some 9, _, _, _, _, _⟩ :: _) _ _); refine alloc_id rfl rfl ?_; intro w4b hid4 hb4 hs4; have HB4 := Lib.hid hb4; have HZ4 := Lib.hid hs4; clear hb4 hs4)
            | (refine store_id rfl (.tmp 9) (.tmp 50) rfl _ _ id rfl rfl hid4 HIL.out ?_; intro w5 hid5 hg5 hs5; have HB5 := Lib.hid (HB4.out.grown hg5 HB4.out.size (fun k hk => by cases hk; exact Nat.le_refl _)); have R5 := Lib.hid (R4.out.below HB5.out); have HSF5 := Lib.hid (HSF4.out.below HB5.out); have HI5 := Lib.hid hid5; clear hg5 hs5 hid4 hid5)
            | ((with_reducible show wpList _ _ _ (⟨some 79, _, _, _, _, _⟩ :: _) _ _); refine load_id rfl (.tmp 9) rfl _ _ rfl HI6.out ?_)
            | (go_at_call 14; (with_reducible refine (GT.out _ _ R6.out).mono ?_); rintro e w8 ⟨a8, n8, c8, rfl, hsf8, hr8, hb8⟩; have R8 := Lib.hid hr8; have HSF8 := Lib.hid hsf8; have HI8 := Lib.hid (HI6.out.chg (X := fun _ => False) (Chg.of_below hb8) (fun e => e)); clear hsf8 hr8 hb8))
          refine wp_region_held_drew (S := fun W => Below w8.heap.size w8 W) (by kernel_rfl) (Below.refl _ _).drew (fun hHeld => ?_)
          refine wpAnyH_take (i := 0) (oi := ⟨some 83, .move (.tmp 11), _, _, _, _⟩) (v := (.int .i64 0)) rfl (by kernel_rfl) (by kernel_rfl) (by kernel_rfl) (fun _ _ _ h => h) (Or.inl ⟨by rfl, fun W hW => by go_simp⟩) (by assumption) ?_
          simp only [Act.put, List.setIfInBounds_toArray, List.set_cons_zero, List.set_cons_succ]
          refine wpAnyH_take (i := 1) (oi := ⟨some 84, .binOp .eql 36 (.tmp 83) (.const (.int .i64 0)) 36, _, _, _, _⟩) (v := (.bool true)) rfl (by kernel_rfl) (by kernel_rfl) (by kernel_rfl) (fun _ _ _ h => h) (Or.inl ⟨by rfl, fun W hW => by go_simp⟩) (by assumption) ?_
          simp only [Act.put, List.setIfInBounds_toArray, List.set_cons_zero, List.set_cons_succ]
          refine wpAnyH_take (i := 2) (oi := ⟨some 85, .move (.tmp 84), _, _, _, _⟩) (v := (.bool true)) rfl (by kernel_rfl) (by kernel_rfl) (by kernel_rfl) (fun _ _ _ h => h) (Or.inl ⟨by rfl, fun W hW => by go_simp⟩) (by assumption) ?_
          simp only [Act.put, List.setIfInBounds_toArray, List.set_cons_zero, List.set_cons_succ]
          refine wpAnyH_take (i := 3) (oi := ⟨some 86, .move (.tmp 13), _, _, _, _⟩) (v := (.int .i64 0)) rfl (by kernel_rfl) (by kernel_rfl) (by kernel_rfl) (fun _ _ _ h => h) (Or.inl ⟨by rfl, fun W hW => by go_simp⟩) (by assumption) ?_
          simp only [Act.put, List.setIfInBounds_toArray, List.set_cons_zero, List.set_cons_succ]
          refine wpAnyH_take (i := 4) (oi := ⟨some 87, .binOp .eql 36 (.tmp 86) (.const (.int .i64 0)) 36, _, _, _, _⟩) (v := (.bool true)) rfl (by kernel_rfl) (by kernel_rfl) (by kernel_rfl) (fun _ _ _ h => h) (Or.inl ⟨by rfl, fun W hW => by go_simp⟩) (by assumption) ?_
          simp only [Act.put, List.setIfInBounds_toArray, List.set_cons_zero, List.set_cons_succ]
          refine wpAnyH_take (i := 5) (oi := ⟨some 88, .pick (.tmp 85) (.tmp 87) (.const (.bool false)), _, _, _, _⟩) (v := (.bool true)) rfl (by kernel_rfl) (by kernel_rfl) (by kernel_rfl) (fun _ _ _ h => h) (Or.inl ⟨by rfl, fun W hW => by go_simp⟩) (by assumption) ?_
          simp only [Act.put, List.setIfInBounds_toArray, List.set_cons_zero, List.set_cons_succ]
          refine wpAnyH_take (i := 6) (oi := ⟨some 89, .move (.tmp 88), _, _, _, _⟩) (v := (.bool true)) rfl (by kernel_rfl) (by kernel_rfl) (by kernel_rfl) (fun _ _ _ h => h) (Or.inl ⟨by rfl, fun W hW => by go_simp⟩) (by assumption) ?_
          simp only [Act.put, List.setIfInBounds_toArray, List.set_cons_zero, List.set_cons_succ]
          refine wpAnyH_take (i := 7) (oi := ⟨some 90, .move (.tmp 12), _, _, _, _⟩) (v := (.slice a8 n8 c8)) rfl (by kernel_rfl) (by kernel_rfl) (by kernel_rfl) (fun _ _ _ h => h) (Or.inl ⟨by rfl, fun W hW => by go_simp⟩) (by assumption) ?_
          simp only [Act.put, List.setIfInBounds_toArray, List.set_cons_zero, List.set_cons_succ]
          refine wpAnyH_take (i := 8) (oi := ⟨some 91, .convert 23 9 (.tmp 90), _, _, _, _⟩) (v := (.string (strB lb))) rfl (by kernel_rfl) (by kernel_rfl) (by kernel_rfl) (fun _ _ _ h => h) (Or.inl ⟨by rfl, fun W hW => by have hs := run_str ((HSF8.out.below hW).1) 9 Tryd.underlying9; go_simp⟩) (by assumption) ?_
          simp only [Act.put, List.setIfInBounds_toArray, List.set_cons_zero, List.set_cons_succ]
          refine wpAnyH_take (i := 9) (oi := ⟨some 92, .move (.tmp 1), _, _, _, _⟩) (v := (.slice a1 n1 c1)) rfl (by kernel_rfl) (by kernel_rfl) (by kernel_rfl) (fun _ _ _ h => h) (Or.inl ⟨by rfl, fun W hW => by go_simp⟩) (by assumption) ?_
          simp only [Act.put, List.setIfInBounds_toArray, List.set_cons_zero, List.set_cons_succ]
          refine wpAnyH_take (i := 10) (oi := ⟨some 93, .convert 23 9 (.tmp 92), _, _, _, _⟩) (v := (.string (strB lb))) rfl (by kernel_rfl) (by kernel_rfl) (by kernel_rfl) (fun _ _ _ h => h) (Or.inl ⟨by rfl, fun W hW => by have hs := run_str (HLB.out.below (R8.out.2.2.trans (hW.mono R8.out.2.2.size))) 9 Tryd.underlying9; go_simp⟩) (by assumption) ?_
          simp only [Act.put, List.setIfInBounds_toArray, List.set_cons_zero, List.set_cons_succ]
          refine wpAnyH_take (i := 11) (oi := ⟨some 94, .binOp .eql 9 (.tmp 91) (.tmp 93) 9, _, _, _, _⟩) (v := (.bool true)) rfl (by kernel_rfl) (by kernel_rfl) (by kernel_rfl) (fun _ _ _ h => h) (Or.inl ⟨by rfl, fun W hW => by go_simp⟩) (by assumption) ?_
          simp only [Act.put, List.setIfInBounds_toArray, List.set_cons_zero, List.set_cons_succ]
          refine wpAnyH_take (i := 12) (oi := ⟨some 95, .pick (.tmp 89) (.tmp 94) (.const (.bool false)), _, _, _, _⟩) (v := (.bool true)) rfl (by kernel_rfl) (by kernel_rfl) (by kernel_rfl) (fun _ _ _ h => h) (Or.inl ⟨by rfl, fun W hW => by go_simp⟩) (by assumption) ?_
          simp only [Act.put, List.setIfInBounds_toArray, List.set_cons_zero, List.set_cons_succ]
          refine wpAnyH_take (i := 13) (oi := ⟨some 96, .move (.tmp 95), _, _, _, _⟩) (v := (.bool true)) rfl (by kernel_rfl) (by kernel_rfl) (by kernel_rfl) (fun _ _ _ h => h) (Or.inl ⟨by rfl, fun W hW => by go_simp⟩) (by assumption) ?_
          simp only [Act.put, List.setIfInBounds_toArray, List.set_cons_zero, List.set_cons_succ]
          refine wpAnyH_take (i := 14) (oi := ⟨some 97, .load 35 (.tmp 9), _, _, _, _⟩) (v := (.agg (idCells id))) rfl (by kernel_rfl) (by kernel_rfl) (by kernel_rfl) (fun _ _ _ h => h) (Or.inl ⟨by rfl, fun W hW => exec_loadId _ rfl _ _ _ HIL.out rfl (HI8.out.chg (X := fun _ => False) (Chg.of_below hW) (fun e => e)).range⟩) (by assumption) ?_
          simp only [Act.put, List.setIfInBounds_toArray, List.set_cons_zero, List.set_cons_succ]
          refine wpAnyH_take (i := 15) (oi := ⟨some 98, .move (.tmp 1), _, _, _, _⟩) (v := (.slice a1 n1 c1)) rfl (by kernel_rfl) (by kernel_rfl) (by kernel_rfl) (fun _ _ _ h => h) (Or.inl ⟨by rfl, fun W hW => by go_simp⟩) (by assumption) ?_
          simp only [Act.put, List.setIfInBounds_toArray, List.set_cons_zero, List.set_cons_succ]
          refine wpAnyH_ready (rs := [16]) (by kernel_rfl) (by simp) ?_
          refine AllReadyH.cons (o := ⟨some 99, .buildSlice 65 1 #[(0, (.tmp 98))], _, _, _, _⟩) rfl (fun K hK => ?_) AllReadyH.nil
          go_simp
          have HB9 := Lib.hid ((Below.refl w8.heap.size w8).drew.alloc (Nat.le_refl _) (.cells #[.slice a1 n1 c1] 23))
          refine hK.out _ _ HB9.out (fun hHeld => ?_)
          clear hK K
          refine wpAnyH_ready (rs := [17]) (by kernel_rfl) (by simp) ?_
          refine AllReadyH.cons (o := ⟨some 100, .call { callee := .value (.func 13), args := #[(.tmp 99)], argTypes := #[65] }, _, _, _, _⟩) rfl (fun K hK => ?_) AllReadyH.nil
          go_simp
          go_wp2_with (go_at_call 13; (refine (SB.out w8.drew R8.out.2.2.drew a1 n1 c1 (HLB.out.below R8.out.2.2.drew)).mono ?_); rintro e w10 ⟨rfl, hb10⟩; have HB10 : Hid (Below w8.heap.size w8 w10) := Lib.hid ((Below.refl w8.heap.size w8).drew.trans hb10); clear hb10)
          refine hK.out _ _ HB10.out (fun hHeld => ?_)
          clear hK K
          refine wpAnyH_take (i := 18) (oi := ⟨some 101, .binOp .eql 35 (.tmp 97) (.tmp 100) 35, _, _, _, _⟩) (v := (.bool true)) rfl (by kernel_rfl) (by kernel_rfl) (by kernel_rfl) (fun _ _ _ h => h) (Or.inl ⟨by rfl, fun W hW => exec_eqlSelf _ _ _ rfl id HIL.out rfl rfl⟩) (by assumption) ?_
          simp only [Act.put, List.setIfInBounds_toArray, List.set_cons_zero, List.set_cons_succ]
          refine wpAnyH_take (i := 19) (oi := ⟨some 102, .pick (.tmp 96) (.tmp 101) (.const (.bool false)), _, _, _, _⟩) (v := (.bool true)) rfl (by kernel_rfl) (by kernel_rfl) (by kernel_rfl) (fun _ _ _ h => h) (Or.inl ⟨by rfl, fun W hW => by go_simp⟩) (by assumption) ?_
          simp only [Act.put, List.setIfInBounds_toArray, List.set_cons_zero, List.set_cons_succ]
          refine wpAnyH_take (i := 20) (oi := ⟨some 103, .move (.tmp 102), _, _, _, _⟩) (v := (.bool true)) rfl (by kernel_rfl) (by kernel_rfl) (by kernel_rfl) (fun _ _ _ h => h) (Or.inl ⟨by rfl, fun W hW => by go_simp⟩) (by assumption) ?_
          simp only [Act.put, List.setIfInBounds_toArray, List.set_cons_zero, List.set_cons_succ]
          refine wpAnyH_ready (rs := [21]) (by kernel_rfl) (by simp) ?_
          refine AllReadyH.cons (o := ⟨some 104, .call { callee := .value (.func 15), args := #[], argTypes := #[] }, _, _, _, _⟩) rfl (fun K hK => ?_) AllReadyH.nil
          go_simp
          go_wp2_with (go_at_call 15; (refine (AW.out w10 (R8.out.2.2.trans (HB10.out.mono R8.out.2.2.size))).mono ?_); rintro e w11 ⟨rfl, hb11⟩; have HB11 : Hid (Below w8.heap.size w8 w11) := Lib.hid (HB10.out.trans (hb11.mono HB10.out.size)); clear hb11)
          refine hK.out _ _ HB11.out (fun hHeld => ?_)
          clear hK K
          refine wpAnyH_take (i := 22) (oi := ⟨some 105, .pick (.tmp 103) (.tmp 104) (.const (.bool false)), _, _, _, _⟩) (v := (.bool true)) rfl (by kernel_rfl) (by kernel_rfl) (by kernel_rfl) (fun _ _ _ h => h) (Or.inl ⟨by rfl, fun W hW => by go_simp⟩) (by assumption) ?_
          simp only [Act.put, List.setIfInBounds_toArray, List.set_cons_zero, List.set_cons_succ]
          refine wpAnyH_take (i := 23) (oi := ⟨some 6, .assign (.tmp 105), _, _, _, _⟩) (v := (.bool true)) rfl (by kernel_rfl) (by kernel_rfl) (by kernel_rfl) (fun _ _ _ h => h) (Or.inl ⟨by rfl, fun W hW => by go_simp⟩) (by assumption) ?_
          simp only [Act.put, List.setIfInBounds_toArray, List.set_cons_zero, List.set_cons_succ]
          refine wpAnyH_done (by kernel_rfl) ?_ _
          go_wp2
          go_ret
          exact ⟨rfl, R8.out.2.2.trans (HB11.out.mono R8.out.2.2.size)⟩
#print axioms looseKept_any
end Go.Proofs.YtcnhifkpflaibaaDoor
