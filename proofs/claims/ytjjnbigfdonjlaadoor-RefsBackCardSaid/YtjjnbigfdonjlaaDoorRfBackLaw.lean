/-
  The law: refs are read from their bytes as they were, and bytes that are read are those that are written.
-/
import Derived.Test.YtjjnbigfdonjlaaDoorGrp13
import Derived.Test.YtjjnbigfdonjlaaDoorGrp17
import Derived.Test.YtjjnbigfdonjlaaDoorRfDecode
namespace Go.Proofs.YtjjnbigfdonjlaaDoor
open Go.RowKit

theorem dec_cases (B : List UInt8) : decRf B = (noRefs, 6) ∨ ∃ s, decRf B = (s, 0) ∧ RightV s ∧ Full s ∧ writeF s = B := by
  unfold decRf
  cases h : readF B 32 with
  | none => exact .inl rfl
  | some s =>
    obtain ⟨o1, o2, _⟩ := read_ok h
    by_cases hr : RightV s
    · exact .inr ⟨s, if_pos hr, hr, o2, o1⟩
    · exact .inl (if_neg hr)
theorem dec_nil : decRf [] = (noRefs, 6) := by
  rcases dec_cases [] with h | ⟨s, _, _, hf, hw⟩
  · exact h
  · have := congrArg List.length hw
    have h4 := hf.2.2.2
    unfold writeF at this
    simp only [List.length_append, List.length_nil] at this
    omega
theorem dec_back {w : World} {S : RfS} {r : RefsV} (hr : RightV r) (hi : RfIn w S r) : decRf (writeF r) = (r, 0) := by
  have h := read_write (m := 32) (Nat.le_refl _) (by decide) hr ⟨hi.br.2.2.2.1, hi.tg.2.2.2.1, hi.log.2.2.2.1, hi.at_⟩
  unfold decRf
  rw [h]
  exact if_pos hr
theorem RightV.lens {r : RefsV} (h : RightV r) : RfLen r := fun e he => by
  have := h.2.2.2.2 e he
  unfold entF at this
  simp only [Bool.and_eq_true, decide_eq_true_eq] at this
  have hn := note_len this.2
  exact ⟨by omega, by omega⟩
theorem enc_yes (S : RfS) (r : RefsV) (w : World) (h : RfIn w S r) (hs : RfLen r) (hT : Tabs w) (hr : RightV r) :
    Calls Tryd.prog 6 #[.agg (rfC S r.head r.at_)] w fun e w' => ∃ a n c, e = .returned (.tuple #[.slice a n c, .int .i64 0]) ∧ Own w' w.heap.size (.slice a n c) (writeF r) ∧ Below w.heap.size w w' := by
  have e1 : encRf r = (writeF r, 0) := by unfold encRf; exact if_pos hr
  refine (e1 ▸ encodeR_any S r w h hs hT : Calls Tryd.prog 6 #[.agg (rfC S r.head r.at_)] w (EncIs w (writeF r, 0))).mono ?_
  rintro e w' ⟨a, n, c, rfl, ho, hb⟩
  exact ⟨a, n, c, rfl, ho, hb⟩
theorem enc_no (S : RfS) (r : RefsV) (w : World) (h : RfIn w S r) (hs : RfLen r) (hT : Tabs w) (hr : ¬ RightV r) :
    Calls Tryd.prog 6 #[.agg (rfC S r.head r.at_)] w fun e w' => ∃ a n c, e = .returned (.tuple #[.slice a n c, .int .i64 1]) ∧ Own w' w.heap.size (.slice a n c) [] ∧ Below w.heap.size w w' := by
  have e1 : encRf r = ([], 1) := by unfold encRf; exact if_neg hr
  refine (e1 ▸ encodeR_any S r w h hs hT : Calls Tryd.prog 6 #[.agg (rfC S r.head r.at_)] w (EncIs w ([], 1))).mono ?_
  rintro e w' ⟨a, n, c, rfl, ho, hb⟩
  exact ⟨a, n, c, rfl, ho, hb⟩
theorem dec_yes (a : Option Addr) (n c : Nat) {B : List UInt8} (w : World) (h : Bytes w a n c B) (hT : Tabs w) {s : RefsV} (hd : decRf B = (s, 0)) :
    Calls Tryd.prog 9 #[.slice a n c] w fun e w' => ∃ S, e = .returned (.tuple #[.agg (rfC S s.head s.at_), .int .i64 0]) ∧ RfOwn w' w.heap.size S s ∧ Below w.heap.size w w' := by
  refine (hd ▸ decodeR_any a n c B w h hT : Calls Tryd.prog 9 #[.slice a n c] w (ApplyIs w (s, 0))).mono ?_
  rintro e w' ⟨S, rfl, ho, hb⟩
  exact ⟨S, rfl, ho, hb⟩
theorem dec_no (a : Option Addr) (n c : Nat) {B : List UInt8} (w : World) (h : Bytes w a n c B) (hT : Tabs w) (hd : decRf B = (noRefs, 6)) :
    Calls Tryd.prog 9 #[.slice a n c] w fun e w' => ∃ S, e = .returned (.tuple #[.agg (rfC S noRefs.head noRefs.at_), .int .i64 6]) ∧ RfOwn w' w.heap.size S noRefs ∧ Below w.heap.size w w' := by
  refine (hd ▸ decodeR_any a n c B w h hT : Calls Tryd.prog 9 #[.slice a n c] w (ApplyIs w (noRefs, 6))).mono ?_
  rintro e w' ⟨S, rfl, ho, hb⟩
  exact ⟨S, rfl, ho, hb⟩
theorem Of.in_ {w : World} {base : Nat} {S : RfS} {r : RefsV} (h : Of.RfOwn w base S r) : RfIn w S r := ⟨h.br.atG, h.tg.atG, h.log.atG, h.at_⟩
theorem Of.few {w : World} {base : Nat} {S : RfS} {r : RefsV} (h : Of.RfOwn w base S r) (h1 : r.br.length ≤ 100000) (h2 : r.tg.length ≤ 100000) (h3 : r.log.length ≤ 100000) : RfFew S := by
  have a1 := h.br.len
  have a2 := h.tg.len
  have a3 := h.log.len
  exact ⟨by omega, by omega, by omega⟩
set_option maxRecDepth 100000 in
set_option maxHeartbeats 16000000 in
theorem refsBack_any (S : RfS) (r : RefsV) (a : Option Addr) (n c : Nat) (B : List UInt8) (w : World) (h : RfIn w S r) (hS : Bytes w a n c B) (hT : Tabs w) :
    Calls Tryd.prog 4 #[.agg (rfC S r.head r.at_), .slice a n c] w fun e w' => e = .returned (.bool true) ∧ Below w.heap.size w w' := by
  obtain ⟨q, hq⟩ : ∃ q : Bool, q = true ↔ LightV r := by classical exact ⟨decide (LightV r), decide_eq_true_iff⟩
  have HAT := Lib.hid h.at_
  have HIN := Lib.hid h
  have HS := Lib.hid hS
  have HQ := Lib.hid hq
  have HTB := Lib.hid (fun W (hW : Below w.heap.size w W) => hT.below hW)
  have HB0 := Lib.hid ((Below.refl w.heap.size w).alloc (Nat.le_refl _) (.cells (rfC S r.head r.at_) RREf))
  have HR0 := Lib.hid (show RowAt (w.alloc (.cells (rfC S r.head r.at_) RREf)) w.heap.size RREf (rfL S r.head r.at_) from heap_alloc_new w _)
  have HLT := Lib.hid (fun W (hW : Below w.heap.size w W) => light_any S r W (h.below hW) q hq)
  have HAW := Lib.hid (fun W (hW : Below w.heap.size w W) => awake_any W (hT.below hW))
  have hn0 : (0 : Int) ≤ (n : Int) := by omega
  clear h hT hq hS
  cases q
  · go_enter Tryd.func4, Tryd.ntmps4
    go_wp2_with (first
      | ((with_reducible show wpList _ _ _ (⟨some 13, _, _, _, _, _⟩ :: _) _ _); go_must (refine wl_ex rfl (exec_loadRr _ rfl _ S r.head r.at_ HAT.out rfl HR0.out) ?_))
      | (go_at_call 5; go_must (refine (HLT.out _ HB0.out).mono ?_); rintro e w2 ⟨rfl, hb⟩; have HR2 := Lib.hid (HR0.out.below hb); have HB2 := Lib.hid (HB0.out.trans (hb.mono HB0.out.size)); clear hb))
    go_ret
    exact ⟨rfl, HB2.out⟩
  · have HLV := Lib.hid (HQ.out.1 rfl)
    by_cases hl : (6000 : Int) < (n : Int)
    · have d1 : decide (6000 < n) = true := decide_eq_true (by omega)
      go_enter Tryd.func4, Tryd.ntmps4
      go_wp2_with (first
        | ((with_reducible show wpList _ _ _ (⟨some 13, _, _, _, _, _⟩ :: _) _ _); go_must (refine wl_ex rfl (exec_loadRr _ rfl _ S r.head r.at_ HAT.out rfl HR0.out) ?_))
        | (go_at_call 5; go_must (refine (HLT.out _ HB0.out).mono ?_); rintro e w2 ⟨rfl, hb⟩; have HR2 := Lib.hid (HR0.out.below hb); have HB2 := Lib.hid (HB0.out.trans (hb.mono HB0.out.size)); clear hb))
      go_ret
      exact ⟨rfl, HB2.out⟩
    · have d1 : decide (6000 < n) = false := decide_eq_false (by omega)
      have HFW := Lib.hid (HLV.out.few HIN.out)
      have HFO := Lib.hid (fun (S' : RfS) (W : World) (b : Nat) (hO : RfOwn W b S' r) => LightV.few HLV.out hO.in_)
      have HFP := Lib.hid (fun (S' : RfS) (W : World) (b : Nat) (hO : Of.RfOwn W b S' r) => LightV.few HLV.out (Of.in_ hO))
      by_cases hqr : RightV r
      · have HQR := Lib.hid hqr
        have HDE := Lib.hid (dec_back hqr HIN.out)
        clear hqr
        rcases dec_cases B with hdb | ⟨s, hdb, hsr, hsf, hwb⟩
        · have HDB := Lib.hid hdb
          have HSL : Hid (RfLen noRefs) := Lib.hid (fun e he => by cases he)
          clear hdb
          go_enter Tryd.func4, Tryd.ntmps4
          go_wp2_with (first
            | ((with_reducible show wpList _ _ _ (⟨some 13, _, _, _, _, _⟩ :: _) _ _); go_must (refine wl_ex rfl (exec_loadRr _ rfl _ S r.head r.at_ HAT.out rfl HR0.out) ?_))
            | (go_at_call 5; go_must (refine (HLT.out _ HB0.out).mono ?_); rintro e w2 ⟨rfl, hb⟩; have HR2 := Lib.hid (HR0.out.below hb); have HB2 := Lib.hid (HB0.out.trans (hb.mono HB0.out.size)); clear hb)
            | ((with_reducible show wpList _ _ _ (⟨some 22, _, _, _, _, _⟩ :: _) _ _); go_must (refine wl_ex rfl (exec_loadRr _ rfl _ S r.head r.at_ HAT.out rfl HR2.out) ?_))
            | (go_at_call 7; (with_reducible refine (told_any S r w2 (HIN.out.below HB2.out) HFW.out).mono ?_); rintro e w3 ⟨S3, rfl, ho, hb⟩; have HR3 := Lib.hid (HR2.out.below hb); have HB3 := Lib.hid (HB2.out.trans (hb.mono HB2.out.size)); have HT3 := Lib.hid ho; clear ho hb)
            | (go_at_call 6; go_must (refine (enc_yes S3 r w3 HT3.out.in_ HLV.out.len (HTB.out _ HB3.out) HQR.out).mono ?_); rintro e w4 ⟨a4, n4, c4, rfl, ho, hb⟩; have HR4 := Lib.hid (HR3.out.below hb); have HB4 := Lib.hid (HB3.out.trans (hb.mono HB3.out.size)); have HO4 := Lib.hid ho.isBytes; clear ho hb)
            | (go_at_call 9; go_must (refine (dec_yes a4 n4 c4 w4 HO4.out (HTB.out _ HB4.out) HDE.out).mono ?_); rintro e w5 ⟨S5, rfl, ho, hb⟩; have HR5 := Lib.hid (HR4.out.below hb); have HB5 := Lib.hid (HB4.out.trans (hb.mono HB4.out.size)); have HO5 := Lib.hid ho; clear ho hb)
            | ((with_reducible show wpList _ _ _ (⟨some 7, _, _, _, _, _⟩ :: _) _ _); go_must (refine alloc_rf rfl rfl ?_); intro w6 hz hb; have HG5 := Lib.hid (show w.heap.size < w5.heap.size from HR5.out.lt); have HR6 := Lib.hid (HR5.out.below hb); have HO6 := Lib.hid (HO5.out.below hb); have HB6 := Lib.hid (HB5.out.trans (hb.mono HB5.out.size)); have HZ6 := Lib.hid hz; clear hz hb; generalize w5.heap.size = g7 at HZ6 HG5 ⊢)
            | ((with_reducible show wpList _ _ _ (⟨_, Op.store _ (.tmp 7) _, _, _, _, _⟩ :: _) _ _); go_must (refine wl_store_rf (S := S5) (h := r.head) (a := r.at_) HO6.out.at_ HZ6.out (len36 rfl) rfl _ _ rfl rfl rfl ?_); intro w7 hz hg; have HZ7 := Lib.hid hz; have HO7 := Lib.hid (in_grown HO6.out HZ6.out hg); have HR7 := Lib.hid (HR6.out.grown hg (fun e => by have := Option.some.inj e; have := HG5.out; omega)); have HB7 := Lib.hid (HB6.out.grown hg HB6.out.size (fun k hk => by cases hk; exact Nat.le_of_lt HG5.out)); clear hz hg))
          have HOd := Lib.hid (HO7.out.below (Below.refl w7.heap.size w7).drew)
          have HBd : Hid (Below w.heap.size w w7.drew) := Lib.hid HB7.out.drew
          refine wp_region_held_drew (S := fun W => RowAt W g7 REf (rfL S5 r.head r.at_) ∧ RowAt W w.heap.size RREf (rfL S r.head r.at_)) (by kernel_rfl) ⟨HZ7.out, HR7.out⟩ (fun hHeld => ?_)
          refine wpAnyH_take (i := 0) (oi := ⟨some 32, .move (.tmp 6), _, _, _, _⟩) (v := (.int .i64 0)) rfl (by kernel_rfl) (by kernel_rfl) (by kernel_rfl) (fun _ _ _ h => h) (Or.inl ⟨by rfl, fun W hW => by go_simp⟩) (by assumption) ?_
          simp only [Act.put, List.setIfInBounds_toArray, List.set_cons_zero, List.set_cons_succ]
          refine wpAnyH_take (i := 1) (oi := ⟨some 33, .binOp .eql 30 (.tmp 32) (.const (.int .i64 0)) 30, _, _, _, _⟩) (v := (.bool true)) rfl (by kernel_rfl) (by kernel_rfl) (by kernel_rfl) (fun _ _ _ h => h) (Or.inl ⟨by rfl, fun W hW => by go_simp⟩) (by assumption) ?_
          simp only [Act.put, List.setIfInBounds_toArray, List.set_cons_zero, List.set_cons_succ]
          refine wpAnyH_take (i := 2) (oi := ⟨some 34, .move (.tmp 33), _, _, _, _⟩) (v := (.bool true)) rfl (by kernel_rfl) (by kernel_rfl) (by kernel_rfl) (fun _ _ _ h => h) (Or.inl ⟨by rfl, fun W hW => by go_simp⟩) (by assumption) ?_
          simp only [Act.put, List.setIfInBounds_toArray, List.set_cons_zero, List.set_cons_succ]
          refine wpAnyH_take (i := 3) (oi := ⟨some 35, .move (.tmp 8), _, _, _, _⟩) (v := (.int .i64 0)) rfl (by kernel_rfl) (by kernel_rfl) (by kernel_rfl) (fun _ _ _ h => h) (Or.inl ⟨by rfl, fun W hW => by go_simp⟩) (by assumption) ?_
          simp only [Act.put, List.setIfInBounds_toArray, List.set_cons_zero, List.set_cons_succ]
          refine wpAnyH_take (i := 4) (oi := ⟨some 36, .binOp .neq 30 (.tmp 35) (.const (.int .i64 0)) 30, _, _, _, _⟩) (v := (.bool false)) rfl (by kernel_rfl) (by kernel_rfl) (by kernel_rfl) (fun _ _ _ h => h) (Or.inl ⟨by rfl, fun W hW => by go_simp⟩) (by assumption) ?_
          simp only [Act.put, List.setIfInBounds_toArray, List.set_cons_zero, List.set_cons_succ]
          refine wpAnyH_take (i := 5) (oi := ⟨some 37, .move (.tmp 36), _, _, _, _⟩) (v := (.bool false)) rfl (by kernel_rfl) (by kernel_rfl) (by kernel_rfl) (fun _ _ _ h => h) (Or.inl ⟨by rfl, fun W hW => by go_simp⟩) (by assumption) ?_
          simp only [Act.put, List.setIfInBounds_toArray, List.set_cons_zero, List.set_cons_succ]
          refine wpAnyH_take (i := 6) (oi := ⟨some 38, .load 35 (.tmp 7), _, _, _, _⟩) (v := (.agg (rfC S5 r.head r.at_))) rfl (by kernel_rfl) (by kernel_rfl) (by kernel_rfl) (fun _ _ _ h => h) (Or.inl ⟨by rfl, fun W hW => exec_loadRf _ rfl g7 S5 r.head r.at_ HAT.out rfl hW.1⟩) (by assumption) ?_
          simp only [Act.put, List.setIfInBounds_toArray, List.set_cons_zero, List.set_cons_succ]
          refine wpAnyH_take (i := 8) (oi := ⟨some 40, .load 27 (.tmp 2), _, _, _, _⟩) (v := (.agg (rfC S r.head r.at_))) rfl (by kernel_rfl) (by kernel_rfl) (by kernel_rfl) (fun _ _ _ h => h) (Or.inl ⟨by rfl, fun W hW => exec_loadRr _ rfl _ S r.head r.at_ HAT.out rfl hW.2⟩) (by assumption) ?_
          simp only [Act.put, List.setIfInBounds_toArray, List.set_cons_zero, List.set_cons_succ]
          refine wpAnyH_ready (rs := [7]) (by kernel_rfl) (by simp) ?_
          refine AllReadyH.cons (o := ⟨some 39, .call { callee := .value (.func 12), args := #[(.tmp 38)], argTypes := #[35] }, _, _, _, _⟩) rfl (fun K hK => ?_) AllReadyH.nil
          go_simp
          refine (Of.of_any S5 r _ HOd.out.in_ (HFO.out S5 _ _ HOd.out)).mono ?_
          rintro e w8 ⟨S8, rfl, ho, hb⟩
          have HO8 := Lib.hid ho
          have HZ8 := Lib.hid (RowAt.below (w := w7.drew) HZ7.out hb)
          have HR8 := Lib.hid (RowAt.below (w := w7.drew) HR7.out hb)
          have HB8 := Lib.hid (HBd.out.trans (hb.mono HBd.out.size))
          clear ho hb
          refine hK.out _ _ ⟨HZ8.out, HR8.out⟩ (fun hHeld => ?_)
          clear hK K
          refine wpAnyH_ready (rs := [9]) (by kernel_rfl) (by simp) ?_
          refine AllReadyH.cons (o := ⟨some 41, .call { callee := .value (.func 11), args := #[(.tmp 39), (.tmp 40)], argTypes := #[27, 27] }, _, _, _, _⟩) rfl (fun K hK => ?_) AllReadyH.nil
          go_simp
          refine (sameRf_any S8 S r _ (Of.in_ HO8.out) (HIN.out.below HB8.out) (HFP.out S8 _ _ HO8.out)).mono ?_
          rintro e w9 ⟨rfl, hb⟩
          have HZ9 := Lib.hid (HZ8.out.below hb)
          have HR9 := Lib.hid (HR8.out.below hb)
          have HB9 := Lib.hid (HB8.out.trans (hb.mono HB8.out.size))
          clear hb
          refine hK.out _ _ ⟨HZ9.out, HR9.out⟩ (fun hHeld => ?_)
          clear hK K
          refine wpAnyH_take (i := 10) (oi := ⟨some 42, .unOp .not 4 (.tmp 41), _, _, _, _⟩) (v := (.bool false)) rfl (by kernel_rfl) (by kernel_rfl) (by kernel_rfl) (fun _ _ _ h => h) (Or.inl ⟨by rfl, fun W hW => by go_simp⟩) (by assumption) ?_
          simp only [Act.put, List.setIfInBounds_toArray, List.set_cons_zero, List.set_cons_succ]
          refine wpAnyH_take (i := 11) (oi := ⟨some 43, .pick (.tmp 37) (.const (.bool true)) (.tmp 42), _, _, _, _⟩) (v := (.bool false)) rfl (by kernel_rfl) (by kernel_rfl) (by kernel_rfl) (fun _ _ _ h => h) (Or.inl ⟨by rfl, fun W hW => by go_simp⟩) (by assumption) ?_
          simp only [Act.put, List.setIfInBounds_toArray, List.set_cons_zero, List.set_cons_succ]
          refine wpAnyH_take (i := 12) (oi := ⟨some 44, .pick (.tmp 34) (.tmp 43) (.const (.bool false)), _, _, _, _⟩) (v := (.bool false)) rfl (by kernel_rfl) (by kernel_rfl) (by kernel_rfl) (fun _ _ _ h => h) (Or.inl ⟨by rfl, fun W hW => by go_simp⟩) (by assumption) ?_
          simp only [Act.put, List.setIfInBounds_toArray, List.set_cons_zero, List.set_cons_succ]
          refine wpAnyH_done (by kernel_rfl) ?_ _
          go_wp2_with (first
            | (go_at_call 9; go_must (refine (dec_no a n c w9 (HS.out.below HB9.out) (HTB.out _ HB9.out) HDB.out).mono ?_); rintro e wa ⟨Sa, rfl, ho, hb⟩; have HBa := Lib.hid (HB9.out.trans (hb.mono HB9.out.size)); have HOa := Lib.hid ho; have HGa := Lib.hid (show w.heap.size ≤ wa.heap.size from HBa.out.size); clear ho hb)
            | ((with_reducible show wpList _ _ _ (⟨some 9, _, _, _, _, _⟩ :: _) _ _); go_must (refine alloc_rf rfl rfl ?_); intro wb hz hb; have HBb := Lib.hid (HBa.out.trans (hb.mono HBa.out.size)); have HOb := Lib.hid (HOa.out.below hb); have HZb := Lib.hid hz; clear hz hb; generalize wa.heap.size = g9 at HZb HGa ⊢)
            | ((with_reducible show wpList _ _ _ (⟨_, Op.store _ (.tmp 9) _, _, _, _, _⟩ :: _) _ _); go_must (refine wl_store_rf (S := Sa) (h := noRefs.head) (a := noRefs.at_) HOb.out.at_ HZb.out (len36 rfl) rfl _ _ rfl rfl rfl ?_); intro wc hz hg; have HZc := Lib.hid hz; have HOc := Lib.hid (in_grown HOb.out HZb.out hg); have HBc := Lib.hid (HBb.out.grown hg HBb.out.size (fun k hk => by cases hk; exact HGa.out)); clear hz hg)
            | ((with_reducible show wpList _ _ _ (⟨some 51, _, _, _, _, _⟩ :: _) _ _); go_must (refine wl_ex rfl (exec_loadRf _ rfl _ Sa noRefs.head noRefs.at_ HOc.out.at_ rfl HZc.out) ?_))
            | (go_at_call 6; go_must (refine (encodeR_any Sa noRefs wc HOc.out.in_ HSL.out (HTB.out _ HBc.out)).mono ?_); rintro e wd ⟨ad, nd, cd, rfl, ho, hb⟩; have HBd2 := Lib.hid (HBc.out.trans (hb.mono HBc.out.size)); generalize ((encRf noRefs).2 : Nat) = kd; clear ho hb)
            | (go_at_call 13; go_must (refine (HAW.out _ HBd2.out).mono ?_); rintro e we ⟨rfl, hb⟩; have HBe := Lib.hid (HBd2.out.trans (hb.mono HBd2.out.size)); clear hb))
          go_ret
          exact ⟨rfl, HBe.out⟩
        · have HDB := Lib.hid hdb
          have HSR := Lib.hid hsr
          have HWB := Lib.hid hwb
          have HSL : Hid (RfLen s) := Lib.hid hsr.lens
          clear hdb hsr hsf hwb
          go_enter Tryd.func4, Tryd.ntmps4
          go_wp2_with (first
            | ((with_reducible show wpList _ _ _ (⟨some 13, _, _, _, _, _⟩ :: _) _ _); go_must (refine wl_ex rfl (exec_loadRr _ rfl _ S r.head r.at_ HAT.out rfl HR0.out) ?_))
            | (go_at_call 5; go_must (refine (HLT.out _ HB0.out).mono ?_); rintro e w2 ⟨rfl, hb⟩; have HR2 := Lib.hid (HR0.out.below hb); have HB2 := Lib.hid (HB0.out.trans (hb.mono HB0.out.size)); clear hb)
            | ((with_reducible show wpList _ _ _ (⟨some 22, _, _, _, _, _⟩ :: _) _ _); go_must (refine wl_ex rfl (exec_loadRr _ rfl _ S r.head r.at_ HAT.out rfl HR2.out) ?_))
            | (go_at_call 7; (with_reducible refine (told_any S r w2 (HIN.out.below HB2.out) HFW.out).mono ?_); rintro e w3 ⟨S3, rfl, ho, hb⟩; have HR3 := Lib.hid (HR2.out.below hb); have HB3 := Lib.hid (HB2.out.trans (hb.mono HB2.out.size)); have HT3 := Lib.hid ho; clear ho hb)
            | (go_at_call 6; go_must (refine (enc_yes S3 r w3 HT3.out.in_ HLV.out.len (HTB.out _ HB3.out) HQR.out).mono ?_); rintro e w4 ⟨a4, n4, c4, rfl, ho, hb⟩; have HR4 := Lib.hid (HR3.out.below hb); have HB4 := Lib.hid (HB3.out.trans (hb.mono HB3.out.size)); have HO4 := Lib.hid ho.isBytes; clear ho hb)
            | (go_at_call 9; go_must (refine (dec_yes a4 n4 c4 w4 HO4.out (HTB.out _ HB4.out) HDE.out).mono ?_); rintro e w5 ⟨S5, rfl, ho, hb⟩; have HR5 := Lib.hid (HR4.out.below hb); have HB5 := Lib.hid (HB4.out.trans (hb.mono HB4.out.size)); have HO5 := Lib.hid ho; clear ho hb)
            | ((with_reducible show wpList _ _ _ (⟨some 7, _, _, _, _, _⟩ :: _) _ _); go_must (refine alloc_rf rfl rfl ?_); intro w6 hz hb; have HG5 := Lib.hid (show w.heap.size < w5.heap.size from HR5.out.lt); have HR6 := Lib.hid (HR5.out.below hb); have HO6 := Lib.hid (HO5.out.below hb); have HB6 := Lib.hid (HB5.out.trans (hb.mono HB5.out.size)); have HZ6 := Lib.hid hz; clear hz hb; generalize w5.heap.size = g7 at HZ6 HG5 ⊢)
            | ((with_reducible show wpList _ _ _ (⟨_, Op.store _ (.tmp 7) _, _, _, _, _⟩ :: _) _ _); go_must (refine wl_store_rf (S := S5) (h := r.head) (a := r.at_) HO6.out.at_ HZ6.out (len36 rfl) rfl _ _ rfl rfl rfl ?_); intro w7 hz hg; have HZ7 := Lib.hid hz; have HO7 := Lib.hid (in_grown HO6.out HZ6.out hg); have HR7 := Lib.hid (HR6.out.grown hg (fun e => by have := Option.some.inj e; have := HG5.out; omega)); have HB7 := Lib.hid (HB6.out.grown hg HB6.out.size (fun k hk => by cases hk; exact Nat.le_of_lt HG5.out)); clear hz hg))
          have HOd := Lib.hid (HO7.out.below (Below.refl w7.heap.size w7).drew)
          have HBd : Hid (Below w.heap.size w w7.drew) := Lib.hid HB7.out.drew
          refine wp_region_held_drew (S := fun W => RowAt W g7 REf (rfL S5 r.head r.at_) ∧ RowAt W w.heap.size RREf (rfL S r.head r.at_)) (by kernel_rfl) ⟨HZ7.out, HR7.out⟩ (fun hHeld => ?_)
          refine wpAnyH_take (i := 0) (oi := ⟨some 32, .move (.tmp 6), _, _, _, _⟩) (v := (.int .i64 0)) rfl (by kernel_rfl) (by kernel_rfl) (by kernel_rfl) (fun _ _ _ h => h) (Or.inl ⟨by rfl, fun W hW => by go_simp⟩) (by assumption) ?_
          simp only [Act.put, List.setIfInBounds_toArray, List.set_cons_zero, List.set_cons_succ]
          refine wpAnyH_take (i := 1) (oi := ⟨some 33, .binOp .eql 30 (.tmp 32) (.const (.int .i64 0)) 30, _, _, _, _⟩) (v := (.bool true)) rfl (by kernel_rfl) (by kernel_rfl) (by kernel_rfl) (fun _ _ _ h => h) (Or.inl ⟨by rfl, fun W hW => by go_simp⟩) (by assumption) ?_
          simp only [Act.put, List.setIfInBounds_toArray, List.set_cons_zero, List.set_cons_succ]
          refine wpAnyH_take (i := 2) (oi := ⟨some 34, .move (.tmp 33), _, _, _, _⟩) (v := (.bool true)) rfl (by kernel_rfl) (by kernel_rfl) (by kernel_rfl) (fun _ _ _ h => h) (Or.inl ⟨by rfl, fun W hW => by go_simp⟩) (by assumption) ?_
          simp only [Act.put, List.setIfInBounds_toArray, List.set_cons_zero, List.set_cons_succ]
          refine wpAnyH_take (i := 3) (oi := ⟨some 35, .move (.tmp 8), _, _, _, _⟩) (v := (.int .i64 0)) rfl (by kernel_rfl) (by kernel_rfl) (by kernel_rfl) (fun _ _ _ h => h) (Or.inl ⟨by rfl, fun W hW => by go_simp⟩) (by assumption) ?_
          simp only [Act.put, List.setIfInBounds_toArray, List.set_cons_zero, List.set_cons_succ]
          refine wpAnyH_take (i := 4) (oi := ⟨some 36, .binOp .neq 30 (.tmp 35) (.const (.int .i64 0)) 30, _, _, _, _⟩) (v := (.bool false)) rfl (by kernel_rfl) (by kernel_rfl) (by kernel_rfl) (fun _ _ _ h => h) (Or.inl ⟨by rfl, fun W hW => by go_simp⟩) (by assumption) ?_
          simp only [Act.put, List.setIfInBounds_toArray, List.set_cons_zero, List.set_cons_succ]
          refine wpAnyH_take (i := 5) (oi := ⟨some 37, .move (.tmp 36), _, _, _, _⟩) (v := (.bool false)) rfl (by kernel_rfl) (by kernel_rfl) (by kernel_rfl) (fun _ _ _ h => h) (Or.inl ⟨by rfl, fun W hW => by go_simp⟩) (by assumption) ?_
          simp only [Act.put, List.setIfInBounds_toArray, List.set_cons_zero, List.set_cons_succ]
          refine wpAnyH_take (i := 6) (oi := ⟨some 38, .load 35 (.tmp 7), _, _, _, _⟩) (v := (.agg (rfC S5 r.head r.at_))) rfl (by kernel_rfl) (by kernel_rfl) (by kernel_rfl) (fun _ _ _ h => h) (Or.inl ⟨by rfl, fun W hW => exec_loadRf _ rfl g7 S5 r.head r.at_ HAT.out rfl hW.1⟩) (by assumption) ?_
          simp only [Act.put, List.setIfInBounds_toArray, List.set_cons_zero, List.set_cons_succ]
          refine wpAnyH_take (i := 8) (oi := ⟨some 40, .load 27 (.tmp 2), _, _, _, _⟩) (v := (.agg (rfC S r.head r.at_))) rfl (by kernel_rfl) (by kernel_rfl) (by kernel_rfl) (fun _ _ _ h => h) (Or.inl ⟨by rfl, fun W hW => exec_loadRr _ rfl _ S r.head r.at_ HAT.out rfl hW.2⟩) (by assumption) ?_
          simp only [Act.put, List.setIfInBounds_toArray, List.set_cons_zero, List.set_cons_succ]
          refine wpAnyH_ready (rs := [7]) (by kernel_rfl) (by simp) ?_
          refine AllReadyH.cons (o := ⟨some 39, .call { callee := .value (.func 12), args := #[(.tmp 38)], argTypes := #[35] }, _, _, _, _⟩) rfl (fun K hK => ?_) AllReadyH.nil
          go_simp
          refine (Of.of_any S5 r _ HOd.out.in_ (HFO.out S5 _ _ HOd.out)).mono ?_
          rintro e w8 ⟨S8, rfl, ho, hb⟩
          have HO8 := Lib.hid ho
          have HZ8 := Lib.hid (RowAt.below (w := w7.drew) HZ7.out hb)
          have HR8 := Lib.hid (RowAt.below (w := w7.drew) HR7.out hb)
          have HB8 := Lib.hid (HBd.out.trans (hb.mono HBd.out.size))
          clear ho hb
          refine hK.out _ _ ⟨HZ8.out, HR8.out⟩ (fun hHeld => ?_)
          clear hK K
          refine wpAnyH_ready (rs := [9]) (by kernel_rfl) (by simp) ?_
          refine AllReadyH.cons (o := ⟨some 41, .call { callee := .value (.func 11), args := #[(.tmp 39), (.tmp 40)], argTypes := #[27, 27] }, _, _, _, _⟩) rfl (fun K hK => ?_) AllReadyH.nil
          go_simp
          refine (sameRf_any S8 S r _ (Of.in_ HO8.out) (HIN.out.below HB8.out) (HFP.out S8 _ _ HO8.out)).mono ?_
          rintro e w9 ⟨rfl, hb⟩
          have HZ9 := Lib.hid (HZ8.out.below hb)
          have HR9 := Lib.hid (HR8.out.below hb)
          have HB9 := Lib.hid (HB8.out.trans (hb.mono HB8.out.size))
          clear hb
          refine hK.out _ _ ⟨HZ9.out, HR9.out⟩ (fun hHeld => ?_)
          clear hK K
          refine wpAnyH_take (i := 10) (oi := ⟨some 42, .unOp .not 4 (.tmp 41), _, _, _, _⟩) (v := (.bool false)) rfl (by kernel_rfl) (by kernel_rfl) (by kernel_rfl) (fun _ _ _ h => h) (Or.inl ⟨by rfl, fun W hW => by go_simp⟩) (by assumption) ?_
          simp only [Act.put, List.setIfInBounds_toArray, List.set_cons_zero, List.set_cons_succ]
          refine wpAnyH_take (i := 11) (oi := ⟨some 43, .pick (.tmp 37) (.const (.bool true)) (.tmp 42), _, _, _, _⟩) (v := (.bool false)) rfl (by kernel_rfl) (by kernel_rfl) (by kernel_rfl) (fun _ _ _ h => h) (Or.inl ⟨by rfl, fun W hW => by go_simp⟩) (by assumption) ?_
          simp only [Act.put, List.setIfInBounds_toArray, List.set_cons_zero, List.set_cons_succ]
          refine wpAnyH_take (i := 12) (oi := ⟨some 44, .pick (.tmp 34) (.tmp 43) (.const (.bool false)), _, _, _, _⟩) (v := (.bool false)) rfl (by kernel_rfl) (by kernel_rfl) (by kernel_rfl) (fun _ _ _ h => h) (Or.inl ⟨by rfl, fun W hW => by go_simp⟩) (by assumption) ?_
          simp only [Act.put, List.setIfInBounds_toArray, List.set_cons_zero, List.set_cons_succ]
          refine wpAnyH_done (by kernel_rfl) ?_ _
          go_wp2_with (first
            | (go_at_call 9; go_must (refine (dec_yes a n c w9 (HS.out.below HB9.out) (HTB.out _ HB9.out) HDB.out).mono ?_); rintro e wa ⟨Sa, rfl, ho, hb⟩; have HBa := Lib.hid (HB9.out.trans (hb.mono HB9.out.size)); have HOa := Lib.hid ho; have HGa := Lib.hid (show w.heap.size ≤ wa.heap.size from HBa.out.size); clear ho hb)
            | ((with_reducible show wpList _ _ _ (⟨some 9, _, _, _, _, _⟩ :: _) _ _); go_must (refine alloc_rf rfl rfl ?_); intro wb hz hb; have HBb := Lib.hid (HBa.out.trans (hb.mono HBa.out.size)); have HOb := Lib.hid (HOa.out.below hb); have HZb := Lib.hid hz; clear hz hb; generalize wa.heap.size = g9 at HZb HGa ⊢)
            | ((with_reducible show wpList _ _ _ (⟨_, Op.store _ (.tmp 9) _, _, _, _, _⟩ :: _) _ _); go_must (refine wl_store_rf (S := Sa) (h := s.head) (a := s.at_) HOb.out.at_ HZb.out (len36 rfl) rfl _ _ rfl rfl rfl ?_); intro wc hz hg; have HZc := Lib.hid hz; have HOc := Lib.hid (in_grown HOb.out HZb.out hg); have HBc := Lib.hid (HBb.out.grown hg HBb.out.size (fun k hk => by cases hk; exact HGa.out)); clear hz hg)
            | ((with_reducible show wpList _ _ _ (⟨some 51, _, _, _, _, _⟩ :: _) _ _); go_must (refine wl_ex rfl (exec_loadRf _ rfl _ Sa s.head s.at_ HOc.out.at_ rfl HZc.out) ?_))
            | (go_at_call 6; go_must (refine (enc_yes Sa s wc HOc.out.in_ HSL.out (HTB.out _ HBc.out) HSR.out).mono ?_); rintro e wd ⟨ad, nd, cd, rfl, ho, hb⟩; rw [HWB.out] at ho; have HBd2 := Lib.hid (HBc.out.trans (hb.mono HBc.out.size)); have hs1 := run_str ho.isBytes 9 Tryd.underlying9; have hs2 := run_str (HS.out.below HBd2.out) 9 Tryd.underlying9; clear ho hb)
            | (go_at_call 13; go_must (refine (HAW.out _ HBd2.out).mono ?_); rintro e we ⟨rfl, hb⟩; have HBe := Lib.hid (HBd2.out.trans (hb.mono HBd2.out.size)); clear hb))
          go_ret
          exact ⟨rfl, HBe.out⟩
      · have HQR := Lib.hid hqr
        clear hqr
        rcases dec_cases B with hdb | ⟨s, hdb, hsr, hsf, hwb⟩
        · have HDB := Lib.hid hdb
          have HSL : Hid (RfLen noRefs) := Lib.hid (fun e he => by cases he)
          clear hdb
          go_enter Tryd.func4, Tryd.ntmps4
          go_wp2_with (first
            | ((with_reducible show wpList _ _ _ (⟨some 13, _, _, _, _, _⟩ :: _) _ _); go_must (refine wl_ex rfl (exec_loadRr _ rfl _ S r.head r.at_ HAT.out rfl HR0.out) ?_))
            | (go_at_call 5; go_must (refine (HLT.out _ HB0.out).mono ?_); rintro e w2 ⟨rfl, hb⟩; have HR2 := Lib.hid (HR0.out.below hb); have HB2 := Lib.hid (HB0.out.trans (hb.mono HB0.out.size)); clear hb)
            | ((with_reducible show wpList _ _ _ (⟨some 22, _, _, _, _, _⟩ :: _) _ _); go_must (refine wl_ex rfl (exec_loadRr _ rfl _ S r.head r.at_ HAT.out rfl HR2.out) ?_))
            | (go_at_call 7; (with_reducible refine (told_any S r w2 (HIN.out.below HB2.out) HFW.out).mono ?_); rintro e w3 ⟨S3, rfl, ho, hb⟩; have HR3 := Lib.hid (HR2.out.below hb); have HB3 := Lib.hid (HB2.out.trans (hb.mono HB2.out.size)); have HT3 := Lib.hid ho; clear ho hb)
            | (go_at_call 6; go_must (refine (enc_no S3 r w3 HT3.out.in_ HLV.out.len (HTB.out _ HB3.out) HQR.out).mono ?_); rintro e w4 ⟨a4, n4, c4, rfl, ho, hb⟩; have HR4 := Lib.hid (HR3.out.below hb); have HB4 := Lib.hid (HB3.out.trans (hb.mono HB3.out.size)); have HO4 := Lib.hid ho.isBytes; clear ho hb)
            | (go_at_call 9; go_must (refine (dec_no a4 n4 c4 w4 HO4.out (HTB.out _ HB4.out) dec_nil).mono ?_); rintro e w5 ⟨S5, rfl, ho, hb⟩; have HR5 := Lib.hid (HR4.out.below hb); have HB5 := Lib.hid (HB4.out.trans (hb.mono HB4.out.size)); have HO5 := Lib.hid ho; clear ho hb)
            | ((with_reducible show wpList _ _ _ (⟨some 7, _, _, _, _, _⟩ :: _) _ _); go_must (refine alloc_rf rfl rfl ?_); intro w6 hz hb; have HG5 := Lib.hid (show w.heap.size < w5.heap.size from HR5.out.lt); have HR6 := Lib.hid (HR5.out.below hb); have HO6 := Lib.hid (HO5.out.below hb); have HB6 := Lib.hid (HB5.out.trans (hb.mono HB5.out.size)); have HZ6 := Lib.hid hz; clear hz hb; generalize w5.heap.size = g7 at HZ6 HG5 ⊢)
            | ((with_reducible show wpList _ _ _ (⟨_, Op.store _ (.tmp 7) _, _, _, _, _⟩ :: _) _ _); go_must (refine wl_store_rf (S := S5) (h := noRefs.head) (a := noRefs.at_) HO6.out.at_ HZ6.out (len36 rfl) rfl _ _ rfl rfl rfl ?_); intro w7 hz hg; have HZ7 := Lib.hid hz; have HO7 := Lib.hid (in_grown HO6.out HZ6.out hg); have HR7 := Lib.hid (HR6.out.grown hg (fun e => by have := Option.some.inj e; have := HG5.out; omega)); have HB7 := Lib.hid (HB6.out.grown hg HB6.out.size (fun k hk => by cases hk; exact Nat.le_of_lt HG5.out)); clear hz hg))
          refine wp_region_held_drew (S := fun _ => True) (by kernel_rfl) trivial (fun hHeld => ?_)
          refine wpAnyH_take (i := 0) (oi := ⟨some 32, .move (.tmp 6), _, _, _, _⟩) (v := (.int .i64 1)) rfl (by kernel_rfl) (by kernel_rfl) (by kernel_rfl) (fun _ _ _ h => h) (Or.inl ⟨by rfl, fun W hW => by go_simp⟩) (by assumption) ?_
          simp only [Act.put, List.setIfInBounds_toArray, List.set_cons_zero, List.set_cons_succ]
          refine wpAnyH_take (i := 1) (oi := ⟨some 33, .binOp .eql 30 (.tmp 32) (.const (.int .i64 0)) 30, _, _, _, _⟩) (v := (.bool false)) rfl (by kernel_rfl) (by kernel_rfl) (by kernel_rfl) (fun _ _ _ h => h) (Or.inl ⟨by rfl, fun W hW => by go_simp⟩) (by assumption) ?_
          simp only [Act.put, List.setIfInBounds_toArray, List.set_cons_zero, List.set_cons_succ]
          refine wpAnyH_take (i := 2) (oi := ⟨some 34, .move (.tmp 33), _, _, _, _⟩) (v := (.bool false)) rfl (by kernel_rfl) (by kernel_rfl) (by kernel_rfl) (fun _ _ _ h => h) (Or.inl ⟨by rfl, fun W hW => by go_simp⟩) (by assumption) ?_
          simp only [Act.put, List.setIfInBounds_toArray, List.set_cons_zero, List.set_cons_succ]
          refine wpAnyH_take (i := 3) (oi := ⟨some 35, .move (.tmp 8), _, _, _, _⟩) (v := undef) rfl (by kernel_rfl) (by kernel_rfl) (by kernel_rfl) (fun _ _ _ h => h) (Or.inr ⟨by rfl, rfl⟩) (by assumption) ?_
          simp only [Act.put, List.setIfInBounds_toArray, List.set_cons_zero, List.set_cons_succ]
          refine wpAnyH_take (i := 4) (oi := ⟨some 36, .binOp .neq 30 (.tmp 35) (.const (.int .i64 0)) 30, _, _, _, _⟩) (v := undef) rfl (by kernel_rfl) (by kernel_rfl) (by kernel_rfl) (fun _ _ _ h => h) (Or.inr ⟨by rfl, rfl⟩) (by assumption) ?_
          simp only [Act.put, List.setIfInBounds_toArray, List.set_cons_zero, List.set_cons_succ]
          refine wpAnyH_take (i := 5) (oi := ⟨some 37, .move (.tmp 36), _, _, _, _⟩) (v := undef) rfl (by kernel_rfl) (by kernel_rfl) (by kernel_rfl) (fun _ _ _ h => h) (Or.inr ⟨by rfl, rfl⟩) (by assumption) ?_
          simp only [Act.put, List.setIfInBounds_toArray, List.set_cons_zero, List.set_cons_succ]
          refine wpAnyH_take (i := 6) (oi := ⟨some 38, .load 35 (.tmp 7), _, _, _, _⟩) (v := undef) rfl (by kernel_rfl) (by kernel_rfl) (by kernel_rfl) (fun _ _ _ h => h) (Or.inr ⟨by rfl, rfl⟩) (by assumption) ?_
          simp only [Act.put, List.setIfInBounds_toArray, List.set_cons_zero, List.set_cons_succ]
          refine wpAnyH_take (i := 7) (oi := ⟨some 39, .call { callee := .value (.func 12), args := #[(.tmp 38)], argTypes := #[35] }, _, _, _, _⟩) (v := undef) rfl (by kernel_rfl) (by kernel_rfl) (by kernel_rfl) (fun _ _ _ h => h) (Or.inr ⟨by rfl, rfl⟩) (by assumption) ?_
          simp only [Act.put, List.setIfInBounds_toArray, List.set_cons_zero, List.set_cons_succ]
          refine wpAnyH_take (i := 8) (oi := ⟨some 40, .load 27 (.tmp 2), _, _, _, _⟩) (v := undef) rfl (by kernel_rfl) (by kernel_rfl) (by kernel_rfl) (fun _ _ _ h => h) (Or.inr ⟨by rfl, rfl⟩) (by assumption) ?_
          simp only [Act.put, List.setIfInBounds_toArray, List.set_cons_zero, List.set_cons_succ]
          refine wpAnyH_take (i := 9) (oi := ⟨some 41, .call { callee := .value (.func 11), args := #[(.tmp 39), (.tmp 40)], argTypes := #[27, 27] }, _, _, _, _⟩) (v := undef) rfl (by kernel_rfl) (by kernel_rfl) (by kernel_rfl) (fun _ _ _ h => h) (Or.inr ⟨by rfl, rfl⟩) (by assumption) ?_
          simp only [Act.put, List.setIfInBounds_toArray, List.set_cons_zero, List.set_cons_succ]
          refine wpAnyH_take (i := 10) (oi := ⟨some 42, .unOp .not 4 (.tmp 41), _, _, _, _⟩) (v := undef) rfl (by kernel_rfl) (by kernel_rfl) (by kernel_rfl) (fun _ _ _ h => h) (Or.inr ⟨by rfl, rfl⟩) (by assumption) ?_
          simp only [Act.put, List.setIfInBounds_toArray, List.set_cons_zero, List.set_cons_succ]
          refine wpAnyH_take (i := 11) (oi := ⟨some 43, .pick (.tmp 37) (.const (.bool true)) (.tmp 42), _, _, _, _⟩) (v := undef) rfl (by kernel_rfl) (by kernel_rfl) (by kernel_rfl) (fun _ _ _ h => h) (Or.inr ⟨by rfl, rfl⟩) (by assumption) ?_
          simp only [Act.put, List.setIfInBounds_toArray, List.set_cons_zero, List.set_cons_succ]
          refine wpAnyH_take (i := 12) (oi := ⟨some 44, .pick (.tmp 34) (.tmp 43) (.const (.bool false)), _, _, _, _⟩) (v := (.bool false)) rfl (by kernel_rfl) (by kernel_rfl) (by kernel_rfl) (fun _ _ _ h => h) (Or.inl ⟨by rfl, fun W hW => by go_simp⟩) (by assumption) ?_
          simp only [Act.put, List.setIfInBounds_toArray, List.set_cons_zero, List.set_cons_succ]
          refine wpAnyH_done (by kernel_rfl) ?_ _
          have HB9 : Hid (Below w.heap.size w w7.drew) := Lib.hid HB7.out.drew
          generalize w7.drew = w9 at HB9 ⊢
          go_wp2_with (first
            | (go_at_call 9; go_must (refine (dec_no a n c w9 (HS.out.below HB9.out) (HTB.out _ HB9.out) HDB.out).mono ?_); rintro e wa ⟨Sa, rfl, ho, hb⟩; have HBa := Lib.hid (HB9.out.trans (hb.mono HB9.out.size)); have HOa := Lib.hid ho; have HGa := Lib.hid (show w.heap.size ≤ wa.heap.size from HBa.out.size); clear ho hb)
            | ((with_reducible show wpList _ _ _ (⟨some 9, _, _, _, _, _⟩ :: _) _ _); go_must (refine alloc_rf rfl rfl ?_); intro wb hz hb; have HBb := Lib.hid (HBa.out.trans (hb.mono HBa.out.size)); have HOb := Lib.hid (HOa.out.below hb); have HZb := Lib.hid hz; clear hz hb; generalize wa.heap.size = g9 at HZb HGa ⊢)
            | ((with_reducible show wpList _ _ _ (⟨_, Op.store _ (.tmp 9) _, _, _, _, _⟩ :: _) _ _); go_must (refine wl_store_rf (S := Sa) (h := noRefs.head) (a := noRefs.at_) HOb.out.at_ HZb.out (len36 rfl) rfl _ _ rfl rfl rfl ?_); intro wc hz hg; have HZc := Lib.hid hz; have HOc := Lib.hid (in_grown HOb.out HZb.out hg); have HBc := Lib.hid (HBb.out.grown hg HBb.out.size (fun k hk => by cases hk; exact HGa.out)); clear hz hg)
            | ((with_reducible show wpList _ _ _ (⟨some 51, _, _, _, _, _⟩ :: _) _ _); go_must (refine wl_ex rfl (exec_loadRf _ rfl _ Sa noRefs.head noRefs.at_ HOc.out.at_ rfl HZc.out) ?_))
            | (go_at_call 6; go_must (refine (encodeR_any Sa noRefs wc HOc.out.in_ HSL.out (HTB.out _ HBc.out)).mono ?_); rintro e wd ⟨ad, nd, cd, rfl, ho, hb⟩; have HBd2 := Lib.hid (HBc.out.trans (hb.mono HBc.out.size)); generalize ((encRf noRefs).2 : Nat) = kd; clear ho hb)
            | (go_at_call 13; go_must (refine (HAW.out _ HBd2.out).mono ?_); rintro e we ⟨rfl, hb⟩; have HBe := Lib.hid (HBd2.out.trans (hb.mono HBd2.out.size)); clear hb))
          go_ret
          exact ⟨rfl, HBe.out⟩
        · have HDB := Lib.hid hdb
          have HSR := Lib.hid hsr
          have HWB := Lib.hid hwb
          have HSL : Hid (RfLen s) := Lib.hid hsr.lens
          clear hdb hsr hsf hwb
          go_enter Tryd.func4, Tryd.ntmps4
          go_wp2_with (first
            | ((with_reducible show wpList _ _ _ (⟨some 13, _, _, _, _, _⟩ :: _) _ _); go_must (refine wl_ex rfl (exec_loadRr _ rfl _ S r.head r.at_ HAT.out rfl HR0.out) ?_))
            | (go_at_call 5; go_must (refine (HLT.out _ HB0.out).mono ?_); rintro e w2 ⟨rfl, hb⟩; have HR2 := Lib.hid (HR0.out.below hb); have HB2 := Lib.hid (HB0.out.trans (hb.mono HB0.out.size)); clear hb)
            | ((with_reducible show wpList _ _ _ (⟨some 22, _, _, _, _, _⟩ :: _) _ _); go_must (refine wl_ex rfl (exec_loadRr _ rfl _ S r.head r.at_ HAT.out rfl HR2.out) ?_))
            | (go_at_call 7; (with_reducible refine (told_any S r w2 (HIN.out.below HB2.out) HFW.out).mono ?_); rintro e w3 ⟨S3, rfl, ho, hb⟩; have HR3 := Lib.hid (HR2.out.below hb); have HB3 := Lib.hid (HB2.out.trans (hb.mono HB2.out.size)); have HT3 := Lib.hid ho; clear ho hb)
            | (go_at_call 6; go_must (refine (enc_no S3 r w3 HT3.out.in_ HLV.out.len (HTB.out _ HB3.out) HQR.out).mono ?_); rintro e w4 ⟨a4, n4, c4, rfl, ho, hb⟩; have HR4 := Lib.hid (HR3.out.below hb); have HB4 := Lib.hid (HB3.out.trans (hb.mono HB3.out.size)); have HO4 := Lib.hid ho.isBytes; clear ho hb)
            | (go_at_call 9; go_must (refine (dec_no a4 n4 c4 w4 HO4.out (HTB.out _ HB4.out) dec_nil).mono ?_); rintro e w5 ⟨S5, rfl, ho, hb⟩; have HR5 := Lib.hid (HR4.out.below hb); have HB5 := Lib.hid (HB4.out.trans (hb.mono HB4.out.size)); have HO5 := Lib.hid ho; clear ho hb)
            | ((with_reducible show wpList _ _ _ (⟨some 7, _, _, _, _, _⟩ :: _) _ _); go_must (refine alloc_rf rfl rfl ?_); intro w6 hz hb; have HG5 := Lib.hid (show w.heap.size < w5.heap.size from HR5.out.lt); have HR6 := Lib.hid (HR5.out.below hb); have HO6 := Lib.hid (HO5.out.below hb); have HB6 := Lib.hid (HB5.out.trans (hb.mono HB5.out.size)); have HZ6 := Lib.hid hz; clear hz hb; generalize w5.heap.size = g7 at HZ6 HG5 ⊢)
            | ((with_reducible show wpList _ _ _ (⟨_, Op.store _ (.tmp 7) _, _, _, _, _⟩ :: _) _ _); go_must (refine wl_store_rf (S := S5) (h := noRefs.head) (a := noRefs.at_) HO6.out.at_ HZ6.out (len36 rfl) rfl _ _ rfl rfl rfl ?_); intro w7 hz hg; have HZ7 := Lib.hid hz; have HO7 := Lib.hid (in_grown HO6.out HZ6.out hg); have HR7 := Lib.hid (HR6.out.grown hg (fun e => by have := Option.some.inj e; have := HG5.out; omega)); have HB7 := Lib.hid (HB6.out.grown hg HB6.out.size (fun k hk => by cases hk; exact Nat.le_of_lt HG5.out)); clear hz hg))
          refine wp_region_held_drew (S := fun _ => True) (by kernel_rfl) trivial (fun hHeld => ?_)
          refine wpAnyH_take (i := 0) (oi := ⟨some 32, .move (.tmp 6), _, _, _, _⟩) (v := (.int .i64 1)) rfl (by kernel_rfl) (by kernel_rfl) (by kernel_rfl) (fun _ _ _ h => h) (Or.inl ⟨by rfl, fun W hW => by go_simp⟩) (by assumption) ?_
          simp only [Act.put, List.setIfInBounds_toArray, List.set_cons_zero, List.set_cons_succ]
          refine wpAnyH_take (i := 1) (oi := ⟨some 33, .binOp .eql 30 (.tmp 32) (.const (.int .i64 0)) 30, _, _, _, _⟩) (v := (.bool false)) rfl (by kernel_rfl) (by kernel_rfl) (by kernel_rfl) (fun _ _ _ h => h) (Or.inl ⟨by rfl, fun W hW => by go_simp⟩) (by assumption) ?_
          simp only [Act.put, List.setIfInBounds_toArray, List.set_cons_zero, List.set_cons_succ]
          refine wpAnyH_take (i := 2) (oi := ⟨some 34, .move (.tmp 33), _, _, _, _⟩) (v := (.bool false)) rfl (by kernel_rfl) (by kernel_rfl) (by kernel_rfl) (fun _ _ _ h => h) (Or.inl ⟨by rfl, fun W hW => by go_simp⟩) (by assumption) ?_
          simp only [Act.put, List.setIfInBounds_toArray, List.set_cons_zero, List.set_cons_succ]
          refine wpAnyH_take (i := 3) (oi := ⟨some 35, .move (.tmp 8), _, _, _, _⟩) (v := undef) rfl (by kernel_rfl) (by kernel_rfl) (by kernel_rfl) (fun _ _ _ h => h) (Or.inr ⟨by rfl, rfl⟩) (by assumption) ?_
          simp only [Act.put, List.setIfInBounds_toArray, List.set_cons_zero, List.set_cons_succ]
          refine wpAnyH_take (i := 4) (oi := ⟨some 36, .binOp .neq 30 (.tmp 35) (.const (.int .i64 0)) 30, _, _, _, _⟩) (v := undef) rfl (by kernel_rfl) (by kernel_rfl) (by kernel_rfl) (fun _ _ _ h => h) (Or.inr ⟨by rfl, rfl⟩) (by assumption) ?_
          simp only [Act.put, List.setIfInBounds_toArray, List.set_cons_zero, List.set_cons_succ]
          refine wpAnyH_take (i := 5) (oi := ⟨some 37, .move (.tmp 36), _, _, _, _⟩) (v := undef) rfl (by kernel_rfl) (by kernel_rfl) (by kernel_rfl) (fun _ _ _ h => h) (Or.inr ⟨by rfl, rfl⟩) (by assumption) ?_
          simp only [Act.put, List.setIfInBounds_toArray, List.set_cons_zero, List.set_cons_succ]
          refine wpAnyH_take (i := 6) (oi := ⟨some 38, .load 35 (.tmp 7), _, _, _, _⟩) (v := undef) rfl (by kernel_rfl) (by kernel_rfl) (by kernel_rfl) (fun _ _ _ h => h) (Or.inr ⟨by rfl, rfl⟩) (by assumption) ?_
          simp only [Act.put, List.setIfInBounds_toArray, List.set_cons_zero, List.set_cons_succ]
          refine wpAnyH_take (i := 7) (oi := ⟨some 39, .call { callee := .value (.func 12), args := #[(.tmp 38)], argTypes := #[35] }, _, _, _, _⟩) (v := undef) rfl (by kernel_rfl) (by kernel_rfl) (by kernel_rfl) (fun _ _ _ h => h) (Or.inr ⟨by rfl, rfl⟩) (by assumption) ?_
          simp only [Act.put, List.setIfInBounds_toArray, List.set_cons_zero, List.set_cons_succ]
          refine wpAnyH_take (i := 8) (oi := ⟨some 40, .load 27 (.tmp 2), _, _, _, _⟩) (v := undef) rfl (by kernel_rfl) (by kernel_rfl) (by kernel_rfl) (fun _ _ _ h => h) (Or.inr ⟨by rfl, rfl⟩) (by assumption) ?_
          simp only [Act.put, List.setIfInBounds_toArray, List.set_cons_zero, List.set_cons_succ]
          refine wpAnyH_take (i := 9) (oi := ⟨some 41, .call { callee := .value (.func 11), args := #[(.tmp 39), (.tmp 40)], argTypes := #[27, 27] }, _, _, _, _⟩) (v := undef) rfl (by kernel_rfl) (by kernel_rfl) (by kernel_rfl) (fun _ _ _ h => h) (Or.inr ⟨by rfl, rfl⟩) (by assumption) ?_
          simp only [Act.put, List.setIfInBounds_toArray, List.set_cons_zero, List.set_cons_succ]
          refine wpAnyH_take (i := 10) (oi := ⟨some 42, .unOp .not 4 (.tmp 41), _, _, _, _⟩) (v := undef) rfl (by kernel_rfl) (by kernel_rfl) (by kernel_rfl) (fun _ _ _ h => h) (Or.inr ⟨by rfl, rfl⟩) (by assumption) ?_
          simp only [Act.put, List.setIfInBounds_toArray, List.set_cons_zero, List.set_cons_succ]
          refine wpAnyH_take (i := 11) (oi := ⟨some 43, .pick (.tmp 37) (.const (.bool true)) (.tmp 42), _, _, _, _⟩) (v := undef) rfl (by kernel_rfl) (by kernel_rfl) (by kernel_rfl) (fun _ _ _ h => h) (Or.inr ⟨by rfl, rfl⟩) (by assumption) ?_
          simp only [Act.put, List.setIfInBounds_toArray, List.set_cons_zero, List.set_cons_succ]
          refine wpAnyH_take (i := 12) (oi := ⟨some 44, .pick (.tmp 34) (.tmp 43) (.const (.bool false)), _, _, _, _⟩) (v := (.bool false)) rfl (by kernel_rfl) (by kernel_rfl) (by kernel_rfl) (fun _ _ _ h => h) (Or.inl ⟨by rfl, fun W hW => by go_simp⟩) (by assumption) ?_
          simp only [Act.put, List.setIfInBounds_toArray, List.set_cons_zero, List.set_cons_succ]
          refine wpAnyH_done (by kernel_rfl) ?_ _
          have HB9 : Hid (Below w.heap.size w w7.drew) := Lib.hid HB7.out.drew
          generalize w7.drew = w9 at HB9 ⊢
          go_wp2_with (first
            | (go_at_call 9; go_must (refine (dec_yes a n c w9 (HS.out.below HB9.out) (HTB.out _ HB9.out) HDB.out).mono ?_); rintro e wa ⟨Sa, rfl, ho, hb⟩; have HBa := Lib.hid (HB9.out.trans (hb.mono HB9.out.size)); have HOa := Lib.hid ho; have HGa := Lib.hid (show w.heap.size ≤ wa.heap.size from HBa.out.size); clear ho hb)
            | ((with_reducible show wpList _ _ _ (⟨some 9, _, _, _, _, _⟩ :: _) _ _); go_must (refine alloc_rf rfl rfl ?_); intro wb hz hb; have HBb := Lib.hid (HBa.out.trans (hb.mono HBa.out.size)); have HOb := Lib.hid (HOa.out.below hb); have HZb := Lib.hid hz; clear hz hb; generalize wa.heap.size = g9 at HZb HGa ⊢)
            | ((with_reducible show wpList _ _ _ (⟨_, Op.store _ (.tmp 9) _, _, _, _, _⟩ :: _) _ _); go_must (refine wl_store_rf (S := Sa) (h := s.head) (a := s.at_) HOb.out.at_ HZb.out (len36 rfl) rfl _ _ rfl rfl rfl ?_); intro wc hz hg; have HZc := Lib.hid hz; have HOc := Lib.hid (in_grown HOb.out HZb.out hg); have HBc := Lib.hid (HBb.out.grown hg HBb.out.size (fun k hk => by cases hk; exact HGa.out)); clear hz hg)
            | ((with_reducible show wpList _ _ _ (⟨some 51, _, _, _, _, _⟩ :: _) _ _); go_must (refine wl_ex rfl (exec_loadRf _ rfl _ Sa s.head s.at_ HOc.out.at_ rfl HZc.out) ?_))
            | (go_at_call 6; go_must (refine (enc_yes Sa s wc HOc.out.in_ HSL.out (HTB.out _ HBc.out) HSR.out).mono ?_); rintro e wd ⟨ad, nd, cd, rfl, ho, hb⟩; rw [HWB.out] at ho; have HBd2 := Lib.hid (HBc.out.trans (hb.mono HBc.out.size)); have hs1 := run_str ho.isBytes 9 Tryd.underlying9; have hs2 := run_str (HS.out.below HBd2.out) 9 Tryd.underlying9; clear ho hb)
            | (go_at_call 13; go_must (refine (HAW.out _ HBd2.out).mono ?_); rintro e we ⟨rfl, hb⟩; have HBe := Lib.hid (HBd2.out.trans (hb.mono HBd2.out.size)); clear hb))
          go_ret
          exact ⟨rfl, HBe.out⟩
#print axioms refsBack_any
end Go.Proofs.YtjjnbigfdonjlaaDoor
