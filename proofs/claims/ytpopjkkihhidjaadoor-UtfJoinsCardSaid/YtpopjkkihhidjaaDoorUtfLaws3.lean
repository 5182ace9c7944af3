/-
  The walks of UtfJoins and UtfPieces.
-/
import Derived.Test.YtpopjkkihhidjaaDoorUtfLaws2
namespace Go.Proofs.YtpopjkkihhidjaaDoor
open Go.RowKit (wrap64)
open Go.RowKit

/-- Two strings, one behind the other. -/
def catB (a b : ByteArray) : ByteArray := strB (a.data.toList ++ b.data.toList)
theorem catB_list (a b : ByteArray) : (catB a b).data.toList = a.data.toList ++ b.data.toList := strB_list _
theorem catB_size (a b : ByteArray) : (catB a b).size = a.size + b.size := by unfold catB; rw [strB_size, List.length_append, str_len, str_len]

theorem run_catB (a b : ByteArray) (h : a.size + b.size ≤ 9223372036854775807) (W : World) : (Op.stringOp .add a b).run Tryd.prog W = .ok (.string (catB a b)) W := by
  have hm : ¬ ((a.size + b.size : Nat) : Int) > IntKind.i64.max := by
    simp only [IntKind.max, IntKind.signed, IntKind.bits]
    simp; omega
  unfold Op.stringOp
  simp only [hm, if_false, Sem.run_pure]
  congr 2

theorem count_is (s : ByteArray) (N E : Int) (w : World) (hs : s.size ≤ 140737488355328) (hT : Tabs w) (h : ((cntE s.data.toList).1 : Int) = N ∧ ((cntE s.data.toList).2 : Int) = E) :
    Calls Tryd.prog 20 #[.string s] w fun e w' => e = .returned (.tuple #[.int .i64 N, .int .i64 E]) ∧ Below w.heap.size w w' :=
  (count_any s w hs hT).mono fun _ _ h1 => ⟨h1.1.trans (by rw [h.1, h.2]), h1.2⟩

set_option maxRecDepth 100000 in
set_option maxHeartbeats 1000000 in
/-- Two texts. -/
theorem joins_two (a b : ByteArray) (N M K F G : Int) (w : World) (hT : Tabs w) (ha : (a.size : Int) ≤ 2000) (hb : (b.size : Int) ≤ 2000)
    (h1 : ((cntE a.data.toList).1 : Int) = N ∧ ((cntE a.data.toList).2 : Int) = 0) (h2 : ((cntE b.data.toList).1 : Int) = M ∧ ((cntE b.data.toList).2 : Int) = F) (h3 : ((cntE (catB a b).data.toList).1 : Int) = K ∧ ((cntE (catB a b).data.toList).2 : Int) = G)
    (hfg : (F = 0 ∧ G = 0 ∧ K = N + M) ∨ (F = 5 ∧ G = 5)) (hN : 0 ≤ N ∧ N ≤ 2000) (hM : 0 ≤ M ∧ M ≤ 2000) :
    Calls Tryd.prog 9 #[.string a, .string b] w fun e w' => e = .returned (.bool true) ∧ Below w.heap.size w w' := by
  have HT := Lib.hid hT
  have HA := fun W h => Lib.hid (count_is a N 0 W (by omega) h h1)
  have HB := fun W h => Lib.hid (count_is b M F W (by omega) h h2)
  have HC := fun W h => Lib.hid (count_is (catB a b) K G W (by rw [catB_size]; omega) h h3)
  have hk := run_catB a b (by omega)
  obtain ⟨hN0, hN1⟩ := hN
  obtain ⟨hM0, hM1⟩ := hM
  clear h1 h2 h3 hT
  rcases hfg with ⟨rfl, rfl, rfl⟩ | ⟨rfl, rfl⟩
  all_goals
    go_enter Tryd.func9, Tryd.ntmps9
    go_wp2_with (first
      | ((with_reducible show Calls _ 20 #[.string a] _ _); go_must (refine (HA _ HT.out).out.mono ?_); rintro e w1 ⟨rfl, hb1⟩)
      | ((with_reducible show Calls _ 20 #[.string b] _ _); go_must (refine (HB _ (HT.out.below hb1)).out.mono ?_); rintro e w2 ⟨rfl, hb2⟩; have hb3 := hb1.trans (hb2.mono hb1.size); clear hb2)
      | ((with_reducible show Calls _ 20 #[.string (catB a b)] _ _); go_must (refine (HC _ (HT.out.below hb3)).out.mono ?_); rintro e w4 ⟨rfl, hb4⟩; have hb5 := hb3.trans (hb4.mono hb3.size); clear hb4)
      | (go_at_call 13; go_must (refine (awake_any _ (HT.out.below hb5)).mono ?_); rintro e w10 ⟨rfl, hb10⟩))
    go_ret
    exact ⟨rfl, hb5.trans (hb10.mono hb5.size)⟩
#print axioms joins_two

theorem check_is (s : ByteArray) (N E : Int) (w : World) (hs : s.size ≤ 140737488355328) (hT : Tabs w) (h : ((chkE s.data.toList).1 : Int) = N ∧ ((chkE s.data.toList).2 : Int) = E) :
    Calls Tryd.prog 19 #[.string s] w fun e w' => e = .returned (.tuple #[.int .i64 N, .int .i64 E]) ∧ Below w.heap.size w w' :=
  (check_any s w hs hT).mono fun _ _ h1 => ⟨h1.1.trans (by rw [h.1, h.2]), h1.2⟩

set_option maxRecDepth 100000 in
set_option maxHeartbeats 1000000 in
/-- The first one is none. -/
theorem joins_bad (a b : ByteArray) (N M K F G P Q H : Int) (w : World) (hT : Tabs w) (ha : (a.size : Int) ≤ 2000) (hb : (b.size : Int) ≤ 2000)
    (h1 : ((cntE a.data.toList).1 : Int) = N ∧ ((cntE a.data.toList).2 : Int) = 5) (h2 : ((cntE b.data.toList).1 : Int) = M ∧ ((cntE b.data.toList).2 : Int) = F) (h3 : ((cntE (catB a b).data.toList).1 : Int) = K ∧ ((cntE (catB a b).data.toList).2 : Int) = G)
    (h4 : ((chkE a.data.toList).1 : Int) = P ∧ ((chkE a.data.toList).2 : Int) = 5) (h5 : ((chkE (catB a b).data.toList).1 : Int) = Q ∧ ((chkE (catB a b).data.toList).2 : Int) = H)
    (hq : H = 0 ∨ (H = 5 ∧ P ≤ Q)) :
    Calls Tryd.prog 9 #[.string a, .string b] w fun e w' => e = .returned (.bool true) ∧ Below w.heap.size w w' := by
  have HT := Lib.hid hT
  have HA := fun W h => Lib.hid (count_is a N 5 W (by omega) h h1)
  have HB := fun W h => Lib.hid (count_is b M F W (by omega) h h2)
  have HC := fun W h => Lib.hid (count_is (catB a b) K G W (by rw [catB_size]; omega) h h3)
  have HD := fun W h => Lib.hid (check_is a P 5 W (by omega) h h4)
  have HE := fun W h => Lib.hid (check_is (catB a b) Q H W (by rw [catB_size]; omega) h h5)
  have hk := run_catB a b (by omega)
  clear h1 h2 h3 h4 h5 hT
  rcases hq with rfl | ⟨rfl, hpq⟩
  all_goals
    go_enter Tryd.func9, Tryd.ntmps9
    go_wp2_with (first
      | ((with_reducible show Calls _ 20 #[.string a] _ _); go_must (refine (HA _ HT.out).out.mono ?_); rintro e w1 ⟨rfl, hb1⟩)
      | ((with_reducible show Calls _ 20 #[.string b] _ _); go_must (refine (HB _ (HT.out.below hb1)).out.mono ?_); rintro e w2 ⟨rfl, hb2⟩; have hb3 := hb1.trans (hb2.mono hb1.size); clear hb2)
      | ((with_reducible show Calls _ 20 #[.string (catB a b)] _ _); go_must (refine (HC _ (HT.out.below hb3)).out.mono ?_); rintro e w4 ⟨rfl, hb4⟩; have hb5 := hb3.trans (hb4.mono hb3.size); clear hb4)
      | ((with_reducible show Calls _ 19 #[.string a] _ _); go_must (refine (HD _ (HT.out.below hb5)).out.mono ?_); rintro e w6 ⟨rfl, hb6⟩; have hb7 := hb5.trans (hb6.mono hb5.size); clear hb6)
      | ((with_reducible show Calls _ 19 #[.string (catB a b)] _ _); go_must (refine (HE _ (HT.out.below hb7)).out.mono ?_); rintro e w8 ⟨rfl, hb8⟩; have hb9 := hb7.trans (hb8.mono hb7.size); clear hb8)
      | (go_at_call 13; go_must (refine (awake_any _ (HT.out.below hb9)).mono ?_); rintro e w10 ⟨rfl, hb10⟩))
    go_ret
    exact ⟨rfl, hb9.trans (hb10.mono hb9.size)⟩
#print axioms joins_bad

set_option maxRecDepth 100000 in
set_option maxHeartbeats 1000000 in
theorem joins_any (a b : ByteArray) (w : World) (hT : Tabs w) :
    Calls Tryd.prog 9 #[.string a, .string b] w fun e w' => e = .returned (.bool true) ∧ Below w.heap.size w w' := by
  by_cases ha : (a.size : Int) ≤ 2000
  · by_cases hb : (b.size : Int) ≤ 2000
    · rcases runesF_cases a.data.toList with ⟨La, hLa⟩ | ⟨p, hLa⟩
      · have hl := runesF_len hLa
        rw [str_len] at hl
        rcases runesF_cases b.data.toList with ⟨Lb, hLb⟩ | ⟨q, hLb⟩
        · have hl2 := runesF_len hLb
          rw [str_len] at hl2
          have h3 := (runesF_ahead hLa b.data.toList).1 _ _ hLb
          rw [← catB_list] at h3
          exact joins_two a b _ _ _ _ _ w hT ha hb ⟨rfl, by rw [cntE_some hLa]; rfl⟩ ⟨rfl, rfl⟩ ⟨rfl, rfl⟩ (.inl ⟨by rw [cntE_some hLb]; rfl, by rw [cntE_some h3]; rfl, by rw [cntE_some h3, cntE_some hLa, cntE_some hLb]; simp⟩) (by rw [cntE_some hLa]; simp only; omega) (by rw [cntE_some hLb]; simp only; omega)
        · have h3 := (runesF_ahead hLa b.data.toList).2 _ hLb
          rw [← catB_list] at h3
          exact joins_two a b _ _ _ _ _ w hT ha hb ⟨rfl, by rw [cntE_some hLa]; rfl⟩ ⟨rfl, rfl⟩ ⟨rfl, rfl⟩ (.inr ⟨by rw [cntE_none hLb]; rfl, by rw [cntE_none h3]; rfl⟩) (by rw [cntE_some hLa]; simp only; omega) (by rw [cntE_none hLb]; simp)
      · rcases runesF_cases (a.data.toList ++ b.data.toList) with ⟨Lc, hLc⟩ | ⟨q, hLc⟩
        · have h3 := hLc
          rw [← catB_list] at h3
          exact joins_bad a b _ _ _ _ _ _ _ _ w hT ha hb ⟨rfl, by rw [cntE_none hLa]; rfl⟩ ⟨rfl, rfl⟩ ⟨rfl, rfl⟩ ⟨rfl, by rw [chkE_none hLa]; rfl⟩ ⟨rfl, rfl⟩ (.inl (by rw [chkE_some h3]; rfl))
        · have h3 := hLc
          rw [← catB_list] at h3
          have hpq := runesF_wrong hLa hLc
          exact joins_bad a b _ _ _ _ _ _ _ _ w hT ha hb ⟨rfl, by rw [cntE_none hLa]; rfl⟩ ⟨rfl, rfl⟩ ⟨rfl, rfl⟩ ⟨rfl, by rw [chkE_none hLa]; rfl⟩ ⟨rfl, rfl⟩ (.inr ⟨by rw [chkE_none h3]; rfl, by rw [chkE_none h3, chkE_none hLa]; simp only; omega⟩)
    · have hd : decide (2000 < (b.size : Int)) = true := by simp; omega
      have hd2 : decide (2000 < (a.size : Int)) = false := by simp; omega
      clear hT
      go_enter Tryd.func9, Tryd.ntmps9
      go_wp2
      go_ret
      exact ⟨rfl, Below.refl _ _⟩
  · have hd : decide (2000 < (a.size : Int)) = true := by simp; omega
    clear hT
    go_enter Tryd.func9, Tryd.ntmps9
    go_wp2
    go_ret
    exact ⟨rfl, Below.refl _ _⟩
#print axioms joins_any

/-! ### UtfPieces -/
theorem cut_num (x N : Int) (h0 : 0 ≤ N) (h1 : N ≤ 5000) : ∃ k : Nat, (k : Int) ≤ N ∧ wrap64 ((IntKind.u64.wrap x).tmod (N + 1)) = (k : Int) := by
  have h0' : 0 ≤ IntKind.u64.wrap x := by unfold IntKind.wrap; simp [IntKind.bits, IntKind.signed]; omega
  have h1' : (IntKind.u64.wrap x).tmod (N + 1) = (IntKind.u64.wrap x) % (N + 1) := Int.tmod_eq_emod_of_nonneg h0'
  have h2 : 0 ≤ (IntKind.u64.wrap x) % (N + 1) := Int.emod_nonneg _ (by omega)
  have h3 : (IntKind.u64.wrap x) % (N + 1) < N + 1 := Int.emod_lt_of_pos _ (by omega)
  refine ⟨((IntKind.u64.wrap x) % (N + 1)).toNat, by omega, ?_⟩
  rw [h1']
  generalize (IntKind.u64.wrap x) % (N + 1) = y at h2 h3
  unfold wrap64
  omega

theorem cut_is (s : ByteArray) (f t : Int) (x : List UInt8) (w : World) (hs : s.size ≤ 140737488355328) (hT : Tabs w) (h : cutE s.data.toList f t = (x, 0)) :
    Calls Tryd.prog 24 #[.string s, .int .i64 f, .int .i64 t] w fun e w' => e = .returned (.tuple #[.string (strB x), .int .i64 0]) ∧ Below w.heap.size w w' :=
  (cut_any s f t w hs hT).mono fun _ _ h1 => ⟨h1.1.trans (by rw [h]; rfl), h1.2⟩

set_option maxRecDepth 100000 in
set_option maxHeartbeats 1000000 in
theorem pieces_any (s : ByteArray) (x : Int) (w : World) (hT : Tabs w) :
    Calls Tryd.prog 10 #[.string s, .int .i64 x] w fun e w' => e = .returned (.bool true) ∧ Below w.heap.size w w' := by
  by_cases hs : (s.size : Int) ≤ 3000
  · have HT := Lib.hid hT
    rcases runesF_cases s.data.toList with ⟨L, hL⟩ | ⟨p, hL⟩
    · have hl := runesF_len hL
      rw [str_len] at hl
      obtain ⟨N, hN⟩ : ∃ N : Int, N = (L.length : Int) := ⟨_, rfl⟩
      obtain ⟨k, hkN, hk⟩ := cut_num x N (by omega) (by omega)
      have HA := fun W h => Lib.hid (count_is s N 0 W (by omega) h (by rw [cntE_some hL]; exact ⟨hN.symm, rfl⟩))
      have hc1 := cutE_ok (f := 0) (t := k) hL (by omega) (by omega)
      have hc2 := cutE_ok (f := k) (t := L.length) hL (by omega) (by omega)
      rw [List.drop_zero, Nat.sub_zero] at hc1
      rw [List.take_of_length_le (by simp)] at hc2
      obtain ⟨K, hK⟩ : ∃ K : Int, K = (k : Int) := ⟨_, rfl⟩
      have HB := fun W h => Lib.hid (cut_is s 0 K _ W (by omega) h (by rw [hK]; exact hc1))
      have HC := fun W h => Lib.hid (cut_is s K N _ W (by omega) h (by rw [hK, hN]; exact hc2))
      have hmay := (runesF_some hL).1
      have ht1 := runesF_text (l := L.take k) (fun n hn => hmay n (List.mem_of_mem_take hn))
      have hz : s.data.toList.length = s.size := str_len s
      have htl : (textF (L.take k)).length ≤ s.size := by
        have h2 := (runesF_some hL).2.1
        rw [← List.take_append_drop k L, textF_append] at h2
        rw [h2, List.length_append] at hz
        omega
      have htl2 : (textF (L.drop k)).length ≤ s.size := by
        have h2 := (runesF_some hL).2.1
        rw [← List.take_append_drop k L, textF_append] at h2
        rw [h2, List.length_append] at hz
        omega
      have HD := fun W h => Lib.hid (count_is (strB (textF (L.take k))) K 0 W (by rw [strB_size]; omega) h (by rw [strB_list, cntE_some ht1]; exact ⟨by simp only [List.length_take]; omega, rfl⟩))
      have hcat := run_catB (strB (textF (L.take k))) (strB (textF (L.drop k))) (by rw [strB_size, strB_size]; omega)
      have he : catB (strB (textF (L.take k))) (strB (textF (L.drop k))) = s := by
        unfold catB
        rw [strB_list, strB_list, ← textF_append, List.take_append_drop, ← (runesF_some hL).2.1]
        exact strB_of s
      rw [he] at hcat
      rw [← hK] at hk hkN
      have i0 : 0 ≤ N := by omega
      have i1 : N ≤ 3000 := by omega
      generalize strB (textF (L.take k)) = S1 at HB HD hcat
      generalize strB (textF (L.drop k)) = S2 at HC hcat
      clear hT hL hl hN hc1 hc2 hmay ht1 htl htl2 he hK hz
      go_enter Tryd.func10, Tryd.ntmps10
      go_wp2_with (first
        | ((with_reducible show Calls _ 20 _ w _); go_must (refine (HA _ HT.out).out.mono ?_); rintro e w1 ⟨rfl, hb1⟩)
        | ((with_reducible show Calls _ 24 _ w1 _); go_must (refine (HB _ (HT.out.below hb1)).out.mono ?_); rintro e w2 ⟨rfl, hb2⟩; have hb3 := hb1.trans (hb2.mono hb1.size); clear hb2)
        | ((with_reducible show Calls _ 24 _ w2 _); go_must (refine (HC _ (HT.out.below hb3)).out.mono ?_); rintro e w4 ⟨rfl, hb4⟩; have hb5 := hb3.trans (hb4.mono hb3.size); clear hb4)
        | ((with_reducible show Calls _ 20 _ w4 _); go_must (refine (HD _ (HT.out.below hb5)).out.mono ?_); rintro e w6 ⟨rfl, hb6⟩; have hb7 := hb5.trans (hb6.mono hb5.size); clear hb6)
        | (go_at_call 13; go_must (refine (awake_any _ (HT.out.below hb7)).mono ?_); rintro e w8 ⟨rfl, hb8⟩))
      go_ret
      exact ⟨rfl, hb7.trans (hb8.mono hb7.size)⟩
    · have HA := fun W h => Lib.hid (count_is s 0 5 W (by omega) h (by rw [cntE_none hL]; exact ⟨rfl, rfl⟩))
      clear hT hL
      go_enter Tryd.func10, Tryd.ntmps10
      go_wp2_with (first
        | (go_at_call 20; go_must (refine (HA _ HT.out).out.mono ?_); rintro e w1 ⟨rfl, hb1⟩)
        | (go_at_call 13; go_must (refine (awake_any _ (HT.out.below hb1)).mono ?_); rintro e w8 ⟨rfl, hb8⟩))
      go_ret
      exact ⟨rfl, hb1.trans (hb8.mono hb1.size)⟩
  · have hd : decide (3000 < (s.size : Int)) = true := by simp; omega
    clear hT
    go_enter Tryd.func10, Tryd.ntmps10
    go_wp2
    go_ret
    exact ⟨rfl, Below.refl _ _⟩
#print axioms pieces_any
end Go.Proofs.YtpopjkkihhidjaaDoor
