/-
  The law DeltaEdits, walked.
-/
import Derived.Test.YtheigemfbcgjcaaDlLaws
import Derived.Deep.RegionHeld3
namespace Go.Proofs.Ytheigemfbcgjcaa
open Go.RowKit Go.Lib

/-- An append of bytes from whatever source, in a region that is drawn. -/
theorem wp_appA {w : World} {o : Oper} {a : Act} {K : Act → World → Prop} {Q : Exit → Act → World → Prop} (s x : Operand)
    (ho : o.op = .call { callee := .builtin .append, args := #[s, x], argTypes := #[22, 22] })
    (base : Nat) (v : Value) (l : List UInt8) (hs : a.eval s = v) (hown : Own w base v l)
    (sa : Option Addr) (m c : Nat) (src : List UInt8) (hx : a.eval x = .slice sa m c) (hsrc : Bytes w sa m c src)
    (h48 : l.length + m ≤ 140737488355328) (hbase : base ≤ w.heap.size)
    (h : ∀ v' w', Own w' base v' (l ++ src) → w.grownBy w' v.ownBlock → K (a.put o.dst v') w') : o.wp Try.prog a w K Q := by
  obtain ⟨i0, hi, hz0, hz1, hz2⟩ := info_parts Try.info5
  obtain ⟨h1, h2, h3, h4⟩ := hsrc
  have main : ∀ ad : Addr, sa = some ad → (∀ j u, (src.map B)[j]? = some u → w.cell? (ad.add j) = some u) → o.wp Try.prog a w K Q := by
    intro ad hsa hnews
    subst hsa
    obtain ⟨v', w', hr, h5, h6, h7⟩ := run_append_tell (P := Try.prog) w base 22 o.type 5 i0 (.int .u8 0) 1 1 Try.underlying22 hi hz0 hz1 hz2 rfl (by decide) v l.length (l.map B) hown
      ad m c (src.map B) (by simp [h1]) hnews (fun u hu => by obtain ⟨x, _, rfl⟩ := List.mem_map.1 hu; rfl) (by unfold maxLen; omega) (by omega) hbase
    refine Lib.wp_append_run w s x 22 22 ho _ _ hs hx _ _ hr (h v' w' ?_ h6)
    unfold Own
    rw [List.length_append, List.map_append, h1]
    exact h5
  rcases h4 with ⟨rfl, rfl⟩ | ⟨b, off, rfl, hc⟩
  · have : src = [] := List.length_eq_zero_iff.1 h1
    subst this
    cases sa with
    | none =>
      have hrun := run_append_owned_none (P := Try.prog) (w := w) base 22 o.type 5 i0 1 Try.underlying22 hi v l.length (l.map B) hown
      refine Lib.wp_append_run w s x 22 22 ho _ _ hs hx _ _ hrun (h v w (by rw [List.append_nil]; exact hown) ⟨rfl, rfl, rfl, Nat.le_refl _, fun _ _ _ => rfl⟩)
    | some ad => exact main ad rfl (fun j u hu => by simp at hu)
  · refine main _ rfl (fun j u hu => ?_)
    rw [List.getElem?_map] at hu
    have hj : j < src.length := by
      rcases Nat.lt_or_ge j src.length with h | h
      · exact h
      · rw [List.getElem?_eq_none h] at hu; cases hu
    have := hc j (by omega)
    simp only [List.getElem?_eq_getElem hj, Option.map_some, Option.some.injEq] at hu
    subst hu
    rw [Addr.add_lit]
    simp [B, hj]

set_option maxRecDepth 100000 in
set_option maxHeartbeats 2000000 in
theorem deltaEdits_any (a a3 : Option Addr) (n c n3 c3 : Nat) (x1 : Int) (b q : List UInt8) (w : World) (h : Bytes w a n c b) (h3 : Bytes w a3 n3 c3 q) :
    Calls Try.prog 6 #[.slice a n c, .int .i64 x1, .slice a3 n3 c3] w fun e w' => e = .returned (.bool true) ∧ Below w.heap.size w w' := by
  have HA := Lib.hid h
  have HT := Lib.hid h3
  have HL : Hid (b.length = n ∧ q.length = n3) := Lib.hid ⟨h.1, h3.1⟩
  clear h h3
  by_cases hbig : (n : Int) < 100
  · have d1 : decide ((n : Int) < 100) = true := decide_eq_true hbig
    go_enter Try.func6, Try.ntmps6
    go_wp2
    go_ret
    exact ⟨rfl, Below.refl _ _⟩
  · have d1 : decide ((n : Int) < 100) = false := decide_eq_false hbig
    have d1n : decide (n < 100) = false := decide_eq_false (by omega)
    by_cases hbig2 : (3000 : Int) < (n : Int)
    · have d2 : decide ((3000 : Int) < (n : Int)) = true := decide_eq_true hbig2
      go_enter Try.func6, Try.ntmps6
      go_wp2
      go_ret
      exact ⟨rfl, Below.refl _ _⟩
    · have d2 : decide ((3000 : Int) < (n : Int)) = false := decide_eq_false hbig2
      have d2n : decide (3000 < n) = false := decide_eq_false (by omega)
      by_cases hbig3 : (200 : Int) < (n3 : Int)
      · have d3 : decide ((200 : Int) < (n3 : Int)) = true := decide_eq_true hbig3
        go_enter Try.func6, Try.ntmps6
        go_wp2
        go_ret
        exact ⟨rfl, Below.refl _ _⟩
      · have d3 : decide ((200 : Int) < (n3 : Int)) = false := decide_eq_false hbig3
        have d3n : decide (200 < n3) = false := decide_eq_false (by omega)
        obtain ⟨m, hm⟩ : ∃ m, n = m + 20 := ⟨n - 20, by omega⟩
        obtain ⟨z, hz⟩ : ∃ z, IntKind.u64.wrap x1 = z := ⟨_, rfl⟩
        have hz0 : 0 ≤ z := by rw [← hz]; unfold IntKind.wrap; simp [IntKind.signed, IntKind.bits]; omega
        obtain ⟨k, hk⟩ : ∃ k : Nat, z % (m : Int) = (k : Int) := ⟨(z % (m : Int)).toNat, by have := Int.emod_nonneg z (show (m : Int) ≠ 0 by omega); omega⟩
        have hkm : k < m := by have := Int.emod_lt_of_pos z (show (0 : Int) < (m : Int) by omega); omega
        obtain ⟨k2, hk2⟩ : ∃ q, k + 10 = q := ⟨_, rfl⟩
        obtain ⟨T, hT⟩ : ∃ T, b.take k ++ q ++ b.drop (k + 10) = T := ⟨_, rfl⟩
        obtain ⟨D, hD⟩ : ∃ D, makeF b T = D := ⟨_, rfl⟩
        have hl := HL.out
        have hTl : T.length ≤ 3200 := by rw [← hT]; simp only [List.length_append, List.length_take, List.length_drop]; omega
        have hml := make_edits b q k (by omega) (by omega) (by omega)
        rw [hT, hD] at hml
        have hap := apply_make b T (by omega) (by omega)
        rw [hD] at hap
        have HAP := Lib.hid hap
        have HDE := Lib.hid hD
        have HTE := Lib.hid hT
        have hsq := strB_self T
        obtain ⟨m2, hm2⟩ : ∃ q, 4 * n3 = q := ⟨_, rfl⟩
        obtain ⟨m3, hm3⟩ : ∃ q, m2 + 60 = q := ⟨_, rfl⟩
        have W1 : IntKind.i64.wrap ((n : Int) - 20) = (m : Int) := by rw [IntWalk.i64_in _ (by omega)]; omega
        have W2 : IntKind.u64.wrap (m : Int) = (m : Int) := by unfold IntKind.wrap; simp [IntKind.signed, IntKind.bits]; omega
        have W3 : IntKind.u64.wrap (k : Int) = (k : Int) := by unfold IntKind.wrap; simp [IntKind.signed, IntKind.bits]; omega
        have W4 : IntKind.i64.wrap (k : Int) = (k : Int) := IntWalk.i64_in _ (by omega)
        have W5 : IntKind.i64.wrap ((k : Int) + 10) = (k2 : Int) := by rw [IntWalk.i64_in _ (by omega)]; omega
        have W6 : IntKind.i64.wrap (4 * (n3 : Int)) = (m2 : Int) := by rw [IntWalk.i64_in _ (by omega)]; omega
        have W7 : IntKind.i64.wrap ((m2 : Int) + 60) = (m3 : Int) := by rw [IntWalk.i64_in _ (by omega)]; omega
        have hm0 : (m : Int) ≠ 0 := by omega
        have hm1 : ¬ m = 0 := by omega
        have HM : Hid (D.length ≤ m3) := Lib.hid (by omega)
        have HN : Hid (n ≤ 3000 ∧ n3 ≤ 200 ∧ T.length ≤ 3200 ∧ k2 ≤ n ∧ k + 10 = k2 ∧ D.length ≤ 100000) := Lib.hid ⟨by omega, by omega, by omega, by omega, hk2, by omega⟩
        obtain ⟨bb, ob, rfl⟩ := bsome HA.out (by have := HA.out.2.1; omega)
        have hnc := HA.out.2.1
        have hk0 : (0 : Int) ≤ (k : Int) := by omega
        have hkc : k ≤ c := by omega
        have hkn : k ≤ n := by omega
        have hk20 : (0 : Int) ≤ (k2 : Int) := by omega
        have hk2n : k2 ≤ n := by omega
        have hk2c : k2 ≤ c := by omega
        have hcx : ¬ c = k2 := by omega
        have hcx' : ¬ k2 = c := by omega
        have hcy : ¬ c = k := by omega
        have hcy' : ¬ k = c := by omega
        obtain ⟨pl, hpl⟩ : ∃ e, n - k2 = e := ⟨_, rfl⟩
        obtain ⟨pc, hpc⟩ : ∃ e, c - k2 = e := ⟨_, rfl⟩
        have HPL : Hid (n - k2 = pl ∧ c - k2 = pc) := Lib.hid ⟨hpl, hpc⟩
        clear hbig hbig2 hbig3 hm hkm hk2 hT hD hl hTl hml hap hm2 hm3
        go_enter Try.func6, Try.ntmps6
        go_wp2_with fail
        have HB0 : Hid (Below w.heap.size w w.drew) := Lib.hid (Below.refl _ _).drew
        refine wp_region_held_drew (S := fun _ => True) (by kernel_rfl) trivial (fun hHeld => ?_)
        generalize w.drew = w0 at HB0 hHeld ⊢
        refine wpAnyH_take (i := 1) (oi := ⟨some 34, .move (.tmp 0), _, _, _, _⟩) (v := (.slice (some ⟨bb, ob, none⟩) n c)) rfl (by kernel_rfl) (by kernel_rfl) (by kernel_rfl) (fun _ _ _ h => h) (Or.inl ⟨by rfl, fun W hW => by go_simp⟩) (by assumption) ?_
        simp only [Act.put, List.setIfInBounds_toArray, List.set_cons_zero, List.set_cons_succ]
        refine wpAnyH_take (i := 2) (oi := ⟨some 35, .move (.tmp 7), _, _, _, _⟩) (v := (.int .i64 (k : Nat))) rfl (by kernel_rfl) (by kernel_rfl) (by kernel_rfl) (fun _ _ _ h => h) (Or.inl ⟨by rfl, fun W hW => by go_simp⟩) (by assumption) ?_
        simp only [Act.put, List.setIfInBounds_toArray, List.set_cons_zero, List.set_cons_succ]
        refine wpAnyH_take (i := 3) (oi := ⟨some 36, .slice 22 (.tmp 34) none (some (.tmp 35)) none, _, _, _, _⟩) (v := (.slice (some ⟨bb, ob, none⟩) k c)) rfl (by kernel_rfl) (by kernel_rfl) (by kernel_rfl) (fun _ _ _ h => h) (Or.inl ⟨by rfl, fun W hW => by go_simp⟩) (by assumption) ?_
        simp only [Act.put, List.setIfInBounds_toArray, List.set_cons_zero, List.set_cons_succ]
        refine wpAnyH_take (i := 5) (oi := ⟨some 38, .move (.tmp 2), _, _, _, _⟩) (v := (.slice a3 n3 c3)) rfl (by kernel_rfl) (by kernel_rfl) (by kernel_rfl) (fun _ _ _ h => h) (Or.inl ⟨by rfl, fun W hW => by go_simp⟩) (by assumption) ?_
        simp only [Act.put, List.setIfInBounds_toArray, List.set_cons_zero, List.set_cons_succ]
        refine wpAnyH_take (i := 7) (oi := ⟨some 40, .move (.tmp 0), _, _, _, _⟩) (v := (.slice (some ⟨bb, ob, none⟩) n c)) rfl (by kernel_rfl) (by kernel_rfl) (by kernel_rfl) (fun _ _ _ h => h) (Or.inl ⟨by rfl, fun W hW => by go_simp⟩) (by assumption) ?_
        simp only [Act.put, List.setIfInBounds_toArray, List.set_cons_zero, List.set_cons_succ]
        refine wpAnyH_take (i := 8) (oi := ⟨some 41, .move (.tmp 7), _, _, _, _⟩) (v := (.int .i64 (k : Nat))) rfl (by kernel_rfl) (by kernel_rfl) (by kernel_rfl) (fun _ _ _ h => h) (Or.inl ⟨by rfl, fun W hW => by go_simp⟩) (by assumption) ?_
        simp only [Act.put, List.setIfInBounds_toArray, List.set_cons_zero, List.set_cons_succ]
        refine wpAnyH_take (i := 9) (oi := ⟨some 42, .binOp .add 3 (.tmp 41) (.const (.int .i64 10)) 3, _, _, _, _⟩) (v := (.int .i64 (k2 : Nat))) rfl (by kernel_rfl) (by kernel_rfl) (by kernel_rfl) (fun _ _ _ h => h) (Or.inl ⟨by rfl, fun W hW => by go_simp⟩) (by assumption) ?_
        simp only [Act.put, List.setIfInBounds_toArray, List.set_cons_zero, List.set_cons_succ]
        refine wpAnyH_take (i := 10) (oi := ⟨some 43, .slice 22 (.tmp 40) (some (.tmp 42)) none none, _, _, _, _⟩) (v := (.slice (some ⟨bb, ob + k2, none⟩) pl pc)) rfl (by kernel_rfl) (by kernel_rfl) (by kernel_rfl) (fun _ _ _ h => h) (Or.inl ⟨by rfl, fun W hW => by go_simp⟩) (by assumption) ?_
        simp only [Act.put, List.setIfInBounds_toArray, List.set_cons_zero, List.set_cons_succ]
        refine wpAnyH_ready (rs := [0]) (by kernel_rfl) (by simp) ?_
        refine AllReadyH.cons (o := ⟨some 33, .buildSlice 22 0 #[], _, _, _, _⟩) rfl (fun K hK => ?_) AllReadyH.nil
        refine wready ?_
        go_simp
        have HO1 := Lib.hid (own_empty w0)
        have HB1 := Lib.hid (HB0.out.alloc HB0.out.size (.cells #[] 5))
        have HS1 : Hid (w0.heap.size ≤ (w0.alloc (.cells #[] 5)).heap.size) := Lib.hid (by simp)
        generalize w0.alloc (.cells #[] 5) = w1 at HO1 HB1 HS1 ⊢
        refine hK.out _ _ trivial (fun hHeld => ?_)
        clear hK K
        refine wpAnyH_ready (rs := [4]) (by kernel_rfl) (by simp) ?_
        refine AllReadyH.cons (o := ⟨some 37, .call { callee := .builtin .append, args := #[(.tmp 33), (.tmp 36)], argTypes := #[22, 22] }, _, _, _, _⟩) rfl (fun K hK => ?_) AllReadyH.nil
        refine wready (wp_appA (.tmp 33) (.tmp 36) rfl w0.heap.size _ [] rfl HO1.out (some ⟨bb, ob, none⟩) k c (b.take k) rfl (bytes_take (HA.out.below HB1.out) hkn) (by have := HN.out; simp; omega) HS1.out ?_)
        intro v2 w2 ho hg
        obtain ⟨a2', n2', c2', rfl, _⟩ := ho.bytes
        have HO2 := Lib.hid ho
        have HB2 := Lib.hid (HB1.out.grown hg HB1.out.size (fun k hk => Nat.le_trans HB0.out.size (World.ownsRow.lt HO1.out k hk).1))
        have HS2 := Lib.hid (Nat.le_trans HS1.out hg.size)
        clear ho hg
        refine hK.out _ _ trivial (fun hHeld => ?_)
        clear hK K
        refine wpAnyH_ready (rs := [6]) (by kernel_rfl) (by simp) ?_
        refine AllReadyH.cons (o := ⟨some 39, .call { callee := .builtin .append, args := #[(.tmp 37), (.tmp 38)], argTypes := #[22, 22] }, _, _, _, _⟩) rfl (fun K hK => ?_) AllReadyH.nil
        refine wready (wp_appA (.tmp 37) (.tmp 38) rfl w0.heap.size _ ([] ++ b.take k) rfl HO2.out a3 n3 c3 q rfl (HT.out.below HB2.out) (by have := HN.out; simp only [List.nil_append, List.length_take]; omega) HS2.out ?_)
        intro v3 w3 ho hg
        obtain ⟨a3', n3', c3', rfl, _⟩ := ho.bytes
        have HO3 := Lib.hid ho
        have HB3 := Lib.hid (HB2.out.grown hg HB2.out.size (fun k hk => Nat.le_trans HB0.out.size (World.ownsRow.lt HO2.out k hk).1))
        have HS3 := Lib.hid (Nat.le_trans HS2.out hg.size)
        clear ho hg
        refine hK.out _ _ trivial (fun hHeld => ?_)
        clear hK K
        refine wpAnyH_ready (rs := [11]) (by kernel_rfl) (by simp) ?_
        refine AllReadyH.cons (o := ⟨some 44, .call { callee := .builtin .append, args := #[(.tmp 39), (.tmp 43)], argTypes := #[22, 22] }, _, _, _, _⟩) rfl (fun K hK => ?_) AllReadyH.nil
        refine wready (wp_appA (.tmp 39) (.tmp 43) rfl w0.heap.size _ ([] ++ b.take k ++ q) rfl HO3.out (some ⟨bb, ob + k2, none⟩) pl pc (b.drop (k + 10)) rfl ((show b.drop (k + 10) = b.drop k2 by rw [HN.out.2.2.2.2.1]) ▸ (by have h := bytes_drop (HA.out.below HB3.out) hk2n; rw [HPL.out.1, HPL.out.2] at h; exact h)) (by have h1 := HN.out; have h2 := HL.out; have h3 := HPL.out; simp only [List.nil_append, List.length_append, List.length_take]; omega) HS3.out ?_)
        intro v4 w4 ho hg
        obtain ⟨a4', n4', c4', rfl, _⟩ := ho.bytes
        have HO4 := Lib.hid ho
        have HB4 := Lib.hid (HB3.out.grown hg HB3.out.size (fun k hk => Nat.le_trans HB0.out.size (World.ownsRow.lt HO3.out k hk).1))
        have HS4 := Lib.hid (Nat.le_trans HS3.out hg.size)
        clear ho hg
        refine hK.out _ _ trivial (fun hHeld => ?_)
        clear hK K
        refine wpAnyH_take (i := 12) (oi := ⟨some 8, .assign (.tmp 44), _, _, _, _⟩) (v := (.slice a4' n4' c4')) rfl (by kernel_rfl) (by kernel_rfl) (by kernel_rfl) (fun _ _ _ h => h) (Or.inl ⟨by rfl, fun W hW => by go_simp⟩) (by assumption) ?_
        simp only [Act.put, List.setIfInBounds_toArray, List.set_cons_zero, List.set_cons_succ]
        refine wpAnyH_done (by kernel_rfl) ?_ _
        clear hHeld
        have HT4 : Hid (Bytes w4 a4' n4' c4' T) := Lib.hid (by have h := HO4.out.isBytes; rw [List.nil_append, HTE.out] at h; exact h)
        clear W1 W2 W3 W4 W5 hpl hpc
        go_wp2_with (first
          | (go_at_call 8; go_must (refine (make_any _ _ _ _ _ _ b T w4 (HA.out.below HB4.out) HT4.out (by have := HN.out; omega) (by have h1 := HN.out; have h2 := HT4.out.1; omega)).mono ?_); rintro e w5 ⟨a5, n5, c5, rfl, ho, hb⟩; rw [HDE.out] at ho; have HO5 := Lib.hid ho.isBytes; have HT5 := Lib.hid (HT4.out.below hb); have HB5 := Lib.hid (HB4.out.trans (hb.mono HB4.out.size)); have HL5 := Lib.hid ho.len; have hle : decide ((n5 : Int) ≤ (m3 : Int)) = true := decide_eq_true (by have h1 := HM.out; have h2 := HL5.out; omega); have hlen : decide (n5 ≤ m3) = true := decide_eq_true (by have h1 := HM.out; have h2 := HL5.out; omega); clear ho hb)
          | (go_at_call 12; go_must (refine (apply_to _ _ _ _ _ _ b D w5 (HA.out.below HB5.out) HO5.out (by have := HN.out; omega) HAP.out).mono ?_); rintro e w6 ⟨a6, n6, c6, rfl, ho, hb⟩; have HB6 := Lib.hid (HB5.out.trans (hb.mono HB5.out.size)); have hs1 := run_str ho.isBytes 9 Try.underlying9; have hs2 := run_str (HT5.out.below hb) 9 Try.underlying9; clear ho hb)
          | (go_at_call 11; go_must (refine (aw_below HB6.out).mono ?_); rintro e w7 ⟨rfl, hb⟩; have HB7 := Lib.hid hb; clear hb))
        go_ret
        exact ⟨rfl, HB7.out⟩
#print axioms deltaEdits_any
end Go.Proofs.Ytheigemfbcgjcaa
