/-
  The walk of the program's Right.
-/
import Derived.Test.YtmenhbdapikpeaaTreeKeySet
import Derived.Test.YtmenhbdapikpeaaUtfText
namespace Go.Proofs.Ytmenhbdapikpeaa
open Go.RowKit Go.Maps

set_option maxRecDepth 100000 in
set_option maxHeartbeats 400000 in
theorem isPlace_yes (a : Option Addr) (n c i : Nat) (hi : i < n) (w : World) : Calls Try.prog 24 #[.slice a n c, .int .i64 i] w fun e w' => e = .returned (.bool true) ∧ w = w' := by
  have h0 : (0 : Int) ≤ (i : Int) := by omega
  have h1 : (i : Int) < (n : Int) := by omega
  go_enter Try.func24, Try.ntmps24
  go_wp2
  go_ret
  exact ⟨rfl, rfl⟩
set_option maxRecDepth 100000 in
set_option maxHeartbeats 400000 in
theorem isPlace_no (a : Option Addr) (n c : Nat) (i : Int) (hi : i < 0 ∨ (n : Int) ≤ i) (w : World) : Calls Try.prog 24 #[.slice a n c, .int .i64 i] w fun e w' => e = .returned (.bool false) ∧ w = w' := by
  by_cases h : i < 0
  · have d0 : decide (0 ≤ i) = false := decide_eq_false (by omega)
    clear hi
    go_enter Try.func24, Try.ntmps24
    go_wp2
    go_ret
    exact ⟨rfl, rfl⟩
  · have h0 : 0 ≤ i := by omega
    have d1 : decide (i < (n : Int)) = false := decide_eq_false (by omega)
    clear hi h
    go_enter Try.func24, Try.ntmps24
    go_wp2
    go_ret
    exact ⟨rfl, rfl⟩
theorem keys_is (a b : KeyV) (z : Int) (hz : keyF a b = z) (w : World) (ha : a.c.length = 32) (hb : b.c.length = 32) : Calls Try.prog 20 #[.agg (keyC a), .agg (keyC b)] w fun e w' => e = .returned (.int .i64 z) ∧ Below w.heap.size w w' := by
  subst hz; exact keys_any a b w ha hb

/-- The first so many may be, but for their keys' being apart. -/
def RpTo (L : List NodeV) (m : Nat) : Prop := ∀ i, i < m → Lib.validRune (nd L i).r = true ∧ ParOk L i
theorem RpTo.next {L : List NodeV} {m : Nat} (h : RpTo L m) (h1 : Lib.validRune (nd L m).r = true) (h2 : ParOk L m) : RpTo L (m + 1) := fun i hi => by
  rcases Nat.lt_or_ge i m with h4 | h4
  · exact h i h4
  · obtain rfl : i = m := by omega
    exact ⟨h1, h2⟩
theorem right_of {L : List NodeV} (h : RpTo L L.length) (h2 : ∀ i k, i < L.length → k < i → keyF (nd L k).k (nd L i).k ≠ 0) : RightT L :=
  RtTo.all (fun i hi => ⟨(h i hi).1, (h i hi).2, fun k hk => h2 i k hi hk⟩)

set_option maxRecDepth 100000 in
set_option maxHeartbeats 4000000 in
theorem right_any (a : Option Addr) (n c : Nat) (L : List NodeV) (w : World) (h : NodesAt w a n c L) (hn : n ≤ 1000) (q : Bool) (hq : q = true ↔ RightT L) :
    Calls Try.prog 10 #[.slice a n c] w fun e w' => e = .returned (.bool q) ∧ Below w.heap.size w w' := by
  have HL := Lib.hid h.1
  have HN := Lib.hid h
  have hnI : (n : Int) ≤ 1000 := by omega
  have HM := Lib.hid hn
  have HQ := Lib.hid hq
  have HF := Lib.hid (show ¬ RightT L → q = false from fun h => by
    cases q
    · rfl
    · exact absurd (HQ.out.1 rfl) h)
  have HK0 := Lib.hid (keysIn_zero w L)
  have HB0 := Lib.hid ((Below.refl w.heap.size w).alloc (Nat.le_refl _) (.map #[] 0))
  have hmm := @run_makeMap Try.prog
  clear h hn hq
  go_enter Try.func10, Try.ntmps10
  go_wp2
  clear hmm
  generalize w.alloc (.map #[] 0) = W0 at HK0 HB0 ⊢
  go_loopg [11] n (fun g v11 W => ∃ i : Nat, Below w.heap.size w W ∧ v11 = .int .i64 i ∧ g + i = n ∧ Hid (RpTo L i) ∧ Hid (KeysIn W w.heap.size L i))
  case atStart => exact ⟨0, HB0.out, rfl, rfl, Lib.hid (fun i h => by omega), HK0⟩
  case round =>
    obtain ⟨i, hbw, rfl, hg, HR, HK⟩ := hrel
    have HG := Lib.hid hg
    have HB := Lib.hid hbw
    have hi0 : (0 : Int) ≤ (i : Int) := by omega
    have hiI : (i : Int) ≤ (n : Int) := by omega
    by_cases hi : (i : Int) < (n : Int)
    · have hin : i < n := by omega
      have HI := Lib.hid hin
      obtain ⟨b, o, rfl⟩ := HN.out.some_ (by omega)
      have HC := Lib.hid ((HN.out.below hbw).at_ i hin)
      obtain ⟨X, hX⟩ : ∃ X, X = nd L i := ⟨_, rfl⟩
      have HX := Lib.hid (hX ▸ HN.out.ok hin : NdOk X)
      rw [← hX] at HC
      have HXE := Lib.hid hX
      clear hg hX
      cases hv : Lib.validRune X.r
      · have HE := Lib.hid (HF.out (RightT.no_rune (i := i) (by rw [HL.out]; exact HI.out) (by rw [← HXE.out]; exact hv)))
        have EN := Lib.hid (fun W => encode_bad X.r hv W)
        clear hv
        go_wp2_with (first
          | (refine wl_ex rfl (exec_loadNode _ rfl _ _ X HX.out rfl HC.out) ?_)
          | (refine store_node rfl rfl _ _ rfl X HX.out rfl rfl ?_; intro W2 hnd hb2 hs2; have HB2 := Lib.hid (HB.out.trans (hb2.mono HB.out.size)); have cr := hnd.run; clear hnd hb2)
          | (go_at_call 23; (with_reducible refine (EN.out _).mono ?_); rintro e w1 ⟨rfl, rfl⟩))
        go_ret
        exact ⟨by rw [HE.out]; rfl, HB2.out⟩
      · obtain ⟨r0, hr0, hmay⟩ := valid_of _ hv
        have EN := Lib.hid (fun W => encode_yes X.r r0 hr0 hmay W)
        have HV := Lib.hid hv
        obtain ⟨p, hp⟩ : ∃ p, X.p = p := ⟨_, rfl⟩
        have HP := Lib.hid hp
        clear hv hr0 hmay hp
        by_cases hm : p = -1
        · subst hm
          have HPO : Hid (ParOk L i) := Lib.hid (.inl (by rw [← HXE.out]; exact HP.out))
          go_wp2_with (first
            | (refine wl_ex rfl (exec_loadNode _ rfl _ _ X HX.out rfl HC.out) ?_)
            | (refine store_node rfl rfl _ _ rfl X HX.out rfl rfl ?_; intro W2 hnd hb2 hs2; have HB2 := Lib.hid (HB.out.trans (hb2.mono HB.out.size)); have HK2 := Lib.hid (HK.out.below hb2); have HND := Lib.hid hnd; have cr := hnd.run; have cp := hnd.par; have HS2 := Lib.hid hs2; rw [HP.out] at cp; clear hnd hb2 hs2)
            | (go_at_call 23; (with_reducible refine (EN.out _).mono ?_); rintro e w1 ⟨rfl, rfl⟩))
          go_quiet (fail)
          have HBx := Lib.hid (below_drewK (Below.refl W2.heap.size W2) nq)
          have HKx := HK2
          generalize W2.drewN nq = w9 at HBx ⊢
          have HK9 := Lib.hid (HKx.out.below HBx.out)
          have HN9 := Lib.hid ((HND.out.below HBx.out).key)
          have HB9 := Lib.hid (HB2.out.trans (HBx.out.mono HB2.out.size))
          have HZ9 := Lib.hid (HB9.out.size)
          obtain ⟨l, ho, hc⟩ := HK9.out
          obtain ⟨kl, hkl⟩ := HX.out.2
          have HO := Lib.hid ho
          have HCC := Lib.hid hc
          have HKL := Lib.hid hkl
          have HMX := Lib.hid (show i < maxLen by have := HI.out; have := HM.out; unfold maxLen; omega)
          clear ho hc hkl HKx HBx
          go_wp2_with (first
            | (refine wl_ex rfl (exec_loadKey _ rfl _ _ X.k HX.out.1 rfl HN9.out) ?_)
            | (at_mapUpdate; go_must (refine wpList_mapUpdate_own _ rfl (.tmp 45) (.tmp 47) (.tmp 48) 54 rfl 41 59 lawK Try.underlying54 noneR w.heap.size i _ rfl HO.out HMX.out (.agg (keyC X.k)) _ kl rfl rfl HKL.out .nil [] rfl ?_); intro W4 ho4 hg4))
          go_roundg (n - (i + 1))
          case measure => have := HG.out; have := HI.out; omega
          case rel => exact ⟨i + 1, HB9.out.grown hg4 HZ9.out (fun k hk => by cases hk; exact Nat.le_refl _), by go_num, by have := HI.out; omega, Lib.hid (HR.out.next (by rw [← HXE.out]; exact HV.out) HPO.out), Lib.hid (KeysIn.next (by rw [← HXE.out]; exact HKL.out) HCC.out ho4)⟩
        by_cases hpl : p < 0 ∨ (n : Int) ≤ p
        · have HE := Lib.hid (HF.out (RightT.no_par (i := i) (by rw [HL.out]; exact HI.out) (by
            rintro (h | ⟨j, h, h3, _⟩)
            · rw [← HXE.out, HP.out] at h; exact hm h
            · rw [← HXE.out, HP.out] at h
              rw [HL.out] at h3
              omega)))
          have IP := Lib.hid (fun W => isPlace_no (some ⟨b, o, none⟩) n c p hpl W)
          have dm : (p != -1) = true := by simpa using hm
          clear hpl hm
          go_wp2_with (first
            | (refine wl_ex rfl (exec_loadNode _ rfl _ _ X HX.out rfl HC.out) ?_)
            | (refine store_node rfl rfl _ _ rfl X HX.out rfl rfl ?_; intro W2 hnd hb2 hs2; have HB2 := Lib.hid (HB.out.trans (hb2.mono HB.out.size)); have HK2 := Lib.hid (HK.out.below hb2); have HND := Lib.hid hnd; have cr := hnd.run; have cp := hnd.par; have HS2 := Lib.hid hs2; rw [HP.out] at cp; clear hnd hb2 hs2)
            | (go_at_call 23; (with_reducible refine (EN.out _).mono ?_); rintro e w1 ⟨rfl, rfl⟩))
          go_quiet ((go_at_call 24; exact Calls.quiet_of_same ((IP.out _).mono fun e w h => ⟨h.1, h.2.symm⟩)))
          have HBx := Lib.hid (below_drewK (Below.refl W2.heap.size W2) nq)
          generalize W2.drewN nq = w9 at HBx ⊢
          go_wp2
          go_ret
          exact ⟨by rw [HE.out]; rfl, HB2.out.trans (HBx.out.mono HB2.out.size)⟩
        obtain ⟨m, rfl⟩ : ∃ m : Nat, p = (m : Int) := ⟨p.toNat, by omega⟩
        have hmn : m < n := by omega
        have hm0 : (0 : Int) ≤ (m : Int) := by omega
        have hmI : (m : Int) < (n : Int) := by omega
        have HMN := Lib.hid hmn
        have HXm := Lib.hid (HN.out.ok hmn).1
        have IP := Lib.hid (fun W => isPlace_yes (some ⟨b, o, none⟩) n c m hmn W)
        have dm : ((m : Int) != -1) = true := bne_iff_ne.2 (by omega)
        obtain ⟨z, hz⟩ : ∃ z, z = keyF (nd L m).k X.k := ⟨_, rfl⟩
        have HZ := Lib.hid hz
        have KA := Lib.hid (fun W => keys_is _ _ z hz.symm W HXm.out HX.out.1)
        clear hm hpl hz hmn
        by_cases hz0 : z < 0
        · have HPO : Hid (ParOk L i) := Lib.hid (.inr ⟨m, by rw [← HXE.out]; exact HP.out, by rw [HL.out]; exact HMN.out, by rw [← HXE.out, ← HZ.out]; exact hz0⟩)
          go_wp2_with (first
            | (refine wl_ex rfl (exec_loadNode _ rfl _ _ X HX.out rfl HC.out) ?_)
            | (refine store_node rfl rfl _ _ rfl X HX.out rfl rfl ?_; intro W2 hnd hb2 hs2; have HB2 := Lib.hid (HB.out.trans (hb2.mono HB.out.size)); have HK2 := Lib.hid (HK.out.below hb2); have HND := Lib.hid hnd; have cr := hnd.run; have cp := hnd.par; have HS2 := Lib.hid hs2; rw [HP.out] at cp; clear hnd hb2 hs2)
            | (go_at_call 23; (with_reducible refine (EN.out _).mono ?_); rintro e w1 ⟨rfl, rfl⟩))
          have HNm := Lib.hid (((HN.out.below HB2.out).below (Below.refl _ _).drew).key m HMN.out)
          have HNi := Lib.hid ((HND.out.below (Below.refl _ _).drew).key)
          have cp2 : W2.drew.cell? ⟨wr.heap.size, 34, none⟩ = some (.int .i64 (m : Int)) := cp
          refine wp_region_still_tail 17 (by kernel_rfl) (by kernel_rfl) ?_
          simp only [List.take_succ_cons, List.take_zero, List.drop_succ_cons, List.drop_zero]
          iterate 7 still_step
          still_call ((IP.out _).mono fun e w h => ⟨h.1, h.2.symm⟩)
          iterate 6 still_step
          refine still_w (by rfl) (exec_loadKey _ rfl _ _ _ HXm.out rfl HNm.out) ?_
          simp only [Act.put, List.setIfInBounds_toArray, List.set_cons_zero, List.set_cons_succ]
          still_step
          refine still_w (by rfl) (exec_loadKey _ rfl _ _ _ HX.out.1 rfl HNi.out) ?_
          simp only [Act.put, List.setIfInBounds_toArray, List.set_cons_zero, List.set_cons_succ]
          refine wpStill_nil ?_
          change wpList _ _ _ _ _ W2.drew
          have HBd := Lib.hid ((Below.refl W2.heap.size W2).drew)
          clear cp2
          generalize W2.drew = wd at HBd ⊢
          go_wp2_with (first
            | (go_at_call 20; (with_reducible refine (KA.out _).mono ?_); rintro e w9 ⟨rfl, hb3⟩; have HBx := Lib.hid (HBd.out.trans (hb3.mono HBd.out.size)); have HKx := HK2; clear hb3; have HK9 := Lib.hid (HKx.out.below HBx.out); have HN9 := Lib.hid ((HND.out.below HBx.out).key); have HB9 := Lib.hid (HB2.out.trans (HBx.out.mono HB2.out.size)); have HZ9 := Lib.hid (HB9.out.size); obtain ⟨l, ho, hc⟩ := HK9.out; obtain ⟨kl, hkl⟩ := HX.out.2; have HO := Lib.hid ho; have HCC := Lib.hid hc; have HKL := Lib.hid hkl; have HMX := Lib.hid (show i < maxLen by have := HI.out; have := HM.out; unfold maxLen; omega); clear ho hc hkl HKx HBx)
            | (refine wl_ex rfl (exec_loadKey _ rfl _ _ X.k HX.out.1 rfl HN9.out) ?_)
            | (at_mapUpdate; go_must (refine wpList_mapUpdate_own _ rfl (.tmp 45) (.tmp 47) (.tmp 48) 54 rfl 41 59 lawK Try.underlying54 noneR w.heap.size i _ rfl HO.out HMX.out (.agg (keyC X.k)) _ kl rfl rfl HKL.out .nil [] rfl ?_); intro W4 ho4 hg4))
          go_roundg (n - (i + 1))
          case measure => have := HG.out; have := HI.out; omega
          case rel => exact ⟨i + 1, HB9.out.grown hg4 HZ9.out (fun k hk => by cases hk; exact Nat.le_refl _), by go_num, by have := HI.out; omega, Lib.hid (HR.out.next (by rw [← HXE.out]; exact HV.out) HPO.out), Lib.hid (KeysIn.next (by rw [← HXE.out]; exact HKL.out) HCC.out ho4)⟩
        · have HE := Lib.hid (HF.out (RightT.no_par (i := i) (by rw [HL.out]; exact HI.out) (by
            rintro (h | ⟨j, h, h3, h4⟩)
            · rw [← HXE.out, HP.out] at h; omega
            · rw [← HXE.out, HP.out] at h
              obtain rfl : j = m := by omega
              rw [← HXE.out, ← HZ.out] at h4
              exact hz0 h4)))
          have dz : decide (z < 0) = false := decide_eq_false hz0
          clear hz0
          go_wp2_with (first
            | (refine wl_ex rfl (exec_loadNode _ rfl _ _ X HX.out rfl HC.out) ?_)
            | (refine store_node rfl rfl _ _ rfl X HX.out rfl rfl ?_; intro W2 hnd hb2 hs2; have HB2 := Lib.hid (HB.out.trans (hb2.mono HB.out.size)); have HK2 := Lib.hid (HK.out.below hb2); have HND := Lib.hid hnd; have cr := hnd.run; have cp := hnd.par; have HS2 := Lib.hid hs2; rw [HP.out] at cp; clear hnd hb2 hs2)
            | (go_at_call 23; (with_reducible refine (EN.out _).mono ?_); rintro e w1 ⟨rfl, rfl⟩))
          have HNm := Lib.hid (((HN.out.below HB2.out).below (Below.refl _ _).drew).key m HMN.out)
          have HNi := Lib.hid ((HND.out.below (Below.refl _ _).drew).key)
          have cp2 : W2.drew.cell? ⟨wr.heap.size, 34, none⟩ = some (.int .i64 (m : Int)) := cp
          refine wp_region_still_tail 17 (by kernel_rfl) (by kernel_rfl) ?_
          simp only [List.take_succ_cons, List.take_zero, List.drop_succ_cons, List.drop_zero]
          iterate 7 still_step
          still_call ((IP.out _).mono fun e w h => ⟨h.1, h.2.symm⟩)
          iterate 6 still_step
          refine still_w (by rfl) (exec_loadKey _ rfl _ _ _ HXm.out rfl HNm.out) ?_
          simp only [Act.put, List.setIfInBounds_toArray, List.set_cons_zero, List.set_cons_succ]
          still_step
          refine still_w (by rfl) (exec_loadKey _ rfl _ _ _ HX.out.1 rfl HNi.out) ?_
          simp only [Act.put, List.setIfInBounds_toArray, List.set_cons_zero, List.set_cons_succ]
          refine wpStill_nil ?_
          change wpList _ _ _ _ _ W2.drew
          have HBd := Lib.hid ((Below.refl W2.heap.size W2).drew)
          clear cp2
          generalize W2.drew = wd at HBd ⊢
          go_wp2_with (go_at_call 20; (with_reducible refine (KA.out _).mono ?_); rintro e w9 ⟨rfl, hb3⟩; have HBx := Lib.hid (HBd.out.trans (hb3.mono HBd.out.size)); clear hb3)
          go_ret
          exact ⟨by rw [HE.out]; rfl, HB2.out.trans (HBx.out.mono HB2.out.size)⟩
    · have hin : i = n := by omega
      subst hin
      obtain ⟨l, ho, hc⟩ := HK.out
      have HO := Lib.hid ho
      rcases hc with ⟨h1, h2, _⟩ | ⟨h1, i2, k2, h2, h3, h4⟩
      · have HE : Hid (q = true) := Lib.hid (HQ.out.2 (right_of (by rw [HL.out]; exact HR.out) (by rw [HL.out]; exact h2)))
        have HS := Lib.hid (show Maps.size (DataW.map l : DataW Unit) = i from h1)
        clear hg ho h1 h2
        go_wp2_with (at_len; refine wpList_len_own _ rfl _ _ rfl 41 59 Try.underlying54 noneR w.heap.size i _ rfl HO.out ?_; rw [HS.out])
        go_ret
        exact ⟨by rw [HE.out]; simp, HB.out⟩
      · have HE : Hid (q = false) := Lib.hid (HF.out (RightT.no_key (i := i2) (k := k2) (by rw [HL.out]; exact h2) h3 h4))
        obtain ⟨y, hy⟩ : ∃ y, Maps.size (DataW.map l : DataW Unit) = y := ⟨_, rfl⟩
        have HS := Lib.hid hy
        have hyi : y < i := by rw [← hy]; exact h1
        have dy : ((y : Int) == (i : Int)) = false := by simp; omega
        clear hg ho h1 h2 h4 hy hyi
        go_wp2_with (at_len; refine wpList_len_own _ rfl _ _ rfl 41 59 Try.underlying54 noneR w.heap.size i _ rfl HO.out ?_; rw [HS.out])
        go_ret
        exact ⟨by rw [HE.out]; rfl, HB.out⟩
#print axioms right_any
end Go.Proofs.Ytmenhbdapikpeaa
