/-
  The law of which of two elements stands ahead, walked.
-/
import Derived.Test.YtmenhbdapikpeaaTreeLaws1
namespace Go.Proofs.Ytmenhbdapikpeaa
open Go.RowKit

/-- A place's number as far as the list has been gone through. -/
def PosTo (l : List Nat) (x : Nat) (i : Nat) (p : Nat) : Prop := ∀ k, k < i → k < l.length → l.getD k 0 = x → p = k
theorem PosTo.hit {l : List Nat} {x i : Nat} (hd : l.Nodup) (hi : i < l.length) (hx : l.getD i 0 = x) : PosTo l x (i + 1) i := fun k hk hkl h => by
  have e : l[i] = l[k] := by
    have h1 : l.getD i 0 = l[i] := by simp [hi]
    have h2 : l.getD k 0 = l[k] := by simp [hkl]
    rw [← h1, ← h2, hx, h]
  rcases Nat.lt_trichotomy i k with h1 | h1 | h1
  · exact absurd e (List.pairwise_iff_getElem.1 hd i k hi hkl h1)
  · exact h1
  · exact absurd e.symm (List.pairwise_iff_getElem.1 hd k i hkl hi h1)
theorem PosTo.miss {l : List Nat} {x i p : Nat} (h : PosTo l x i p) (hx : l.getD i 0 ≠ x) : PosTo l x (i + 1) p := fun k hk hkl e => by
  rcases Nat.lt_or_ge k i with h1 | h1
  · exact h k h1 hkl e
  · obtain rfl : k = i := by omega
    exact absurd e hx
theorem pos_end {l : List Nat} {x p : Nat} {L : List NodeV} (hl : OrdT L l) (h : PosTo l x L.length p) (hx : x < L.length) : p < l.length ∧ l.getD p 0 = x := by
  obtain ⟨k, hk, e⟩ := List.getElem_of_mem ((hl.2 x).2 hx)
  have h2 : l.getD k 0 = x := by simp [hk, e]
  have := h k (by rw [ordT_length hl] at hk; exact hk) hk h2
  subst this
  exact ⟨hk, h2⟩
theorem pos_lt {l : List Nat} {L : List NodeV} (hl : OrdT L l) {i j : Nat} (hij : i < j) (hj : j < l.length) : cmpT L (l.getD i 0) (l.getD j 0) = -1 := by
  have h1 := List.pairwise_iff_getElem.1 hl.1 i j (by omega) hj hij
  have e1 : l.getD i 0 = l[i] := by simp [show i < l.length from by omega]
  have e2 : l.getD j 0 = l[j] := by simp [hj]
  rw [e1, e2]
  unfold cmpT at *
  rcases wayF_range (wayK L l[i]) (wayK L l[j]) with h | h | h <;> omega

set_option maxRecDepth 100000 in
set_option maxHeartbeats 8000000 in
theorem treeCompares_any (a : Option Addr) (n c : Nat) (L : List NodeV) (x y : Int) (w : World) (h : NodesAt w a n c L) :
    Calls Try.prog 4 #[.slice a n c, .int .i64 x, .int .i64 y] w fun e w' => e = .returned (.bool true) ∧ Below w.heap.size w w' := by
  by_cases hn : (60 : Int) < (n : Int)
  · clear h
    go_enter Try.func4, Try.ntmps4
    go_wp2
    go_ret
    exact ⟨rfl, Below.refl _ _⟩
  have hn1 : n ≤ 1000 := by omega
  have AW := Lib.hid (fun W => awake_any W)
  have TO := Lib.hid (told_in h hn1)
  have HB := Lib.hid (Below.refl w.heap.size w)
  by_cases hR : RightT L
  · have RR := Lib.hid (fun W (hb : Below w.heap.size w W) => refRight_any a n c L W (h.below hb) hn1 true ⟨fun _ => hR, fun _ => rfl⟩)
    by_cases hx0 : x < 0
    · have CM := Lib.hid (fun a c W (h : NodesAt W a n c L) => compare_no a n c L x y W h hn1 (.inl (.inl hx0)))
      have d1 : decide (x < 0) = true := decide_eq_true hx0
      clear h hn1 hR
      go_enter Try.func4, Try.ntmps4
      go_wp2_with (first
            | (go_at_call 11; (with_reducible refine (TO.out _ HB.out).mono ?_); rintro e W1 ⟨a1, c1, rfl, hnd, hb⟩; have HND := Lib.hid hnd; have HB := Lib.hid (HB.out.trans (hb.mono HB.out.size)); clear hb hnd)
            | (go_at_call 18; (with_reducible refine (CM.out _ _ _ HND.out).mono ?_); rintro e W1 ⟨rfl, hb⟩; have HB := Lib.hid (HB.out.trans (hb.mono HB.out.size)); clear hb)
            | (go_at_call 9; (with_reducible refine (RR.out _ HB.out).mono ?_); rintro e W1 ⟨rfl, hb⟩; have HB := Lib.hid (HB.out.trans (hb.mono HB.out.size)); clear hb)
            | (go_at_call 16; (with_reducible refine (RO.out _ HB.out).mono ?_); rintro e W1 ⟨ao, co, rfl, ho, hb⟩; have HRO := Lib.hid ho; have HB := Lib.hid (HB.out.trans (hb.mono HB.out.size)); clear hb ho)
            | (go_at_call 14; (with_reducible refine (AW.out _).mono ?_); rintro e W1 ⟨rfl, hb⟩; have HB := Lib.hid (HB.out.trans (hb.mono HB.out.size)); clear hb))
      go_ret
      exact ⟨rfl, HB.out⟩
    by_cases hy0 : y < 0
    · have CM := Lib.hid (fun a c W (h : NodesAt W a n c L) => compare_no a n c L x y W h hn1 (.inr (.inl (.inl hy0))))
      have d1 : decide (y < 0) = true := decide_eq_true hy0
      clear h hn1 hR
      go_enter Try.func4, Try.ntmps4
      go_wp2_with (first
            | (go_at_call 11; (with_reducible refine (TO.out _ HB.out).mono ?_); rintro e W1 ⟨a1, c1, rfl, hnd, hb⟩; have HND := Lib.hid hnd; have HB := Lib.hid (HB.out.trans (hb.mono HB.out.size)); clear hb hnd)
            | (go_at_call 18; (with_reducible refine (CM.out _ _ _ HND.out).mono ?_); rintro e W1 ⟨rfl, hb⟩; have HB := Lib.hid (HB.out.trans (hb.mono HB.out.size)); clear hb)
            | (go_at_call 9; (with_reducible refine (RR.out _ HB.out).mono ?_); rintro e W1 ⟨rfl, hb⟩; have HB := Lib.hid (HB.out.trans (hb.mono HB.out.size)); clear hb)
            | (go_at_call 16; (with_reducible refine (RO.out _ HB.out).mono ?_); rintro e W1 ⟨ao, co, rfl, ho, hb⟩; have HRO := Lib.hid ho; have HB := Lib.hid (HB.out.trans (hb.mono HB.out.size)); clear hb ho)
            | (go_at_call 14; (with_reducible refine (AW.out _).mono ?_); rintro e W1 ⟨rfl, hb⟩; have HB := Lib.hid (HB.out.trans (hb.mono HB.out.size)); clear hb))
      go_ret
      exact ⟨rfl, HB.out⟩
    by_cases hxn : (n : Int) ≤ x
    · have CM := Lib.hid (fun a c W (h : NodesAt W a n c L) => compare_no a n c L x y W h hn1 (.inl (.inr hxn)))
      clear h hn1 hR
      go_enter Try.func4, Try.ntmps4
      go_wp2_with (first
            | (go_at_call 11; (with_reducible refine (TO.out _ HB.out).mono ?_); rintro e W1 ⟨a1, c1, rfl, hnd, hb⟩; have HND := Lib.hid hnd; have HB := Lib.hid (HB.out.trans (hb.mono HB.out.size)); clear hb hnd)
            | (go_at_call 18; (with_reducible refine (CM.out _ _ _ HND.out).mono ?_); rintro e W1 ⟨rfl, hb⟩; have HB := Lib.hid (HB.out.trans (hb.mono HB.out.size)); clear hb)
            | (go_at_call 9; (with_reducible refine (RR.out _ HB.out).mono ?_); rintro e W1 ⟨rfl, hb⟩; have HB := Lib.hid (HB.out.trans (hb.mono HB.out.size)); clear hb)
            | (go_at_call 16; (with_reducible refine (RO.out _ HB.out).mono ?_); rintro e W1 ⟨ao, co, rfl, ho, hb⟩; have HRO := Lib.hid ho; have HB := Lib.hid (HB.out.trans (hb.mono HB.out.size)); clear hb ho)
            | (go_at_call 14; (with_reducible refine (AW.out _).mono ?_); rintro e W1 ⟨rfl, hb⟩; have HB := Lib.hid (HB.out.trans (hb.mono HB.out.size)); clear hb))
      go_ret
      exact ⟨rfl, HB.out⟩
    by_cases hyn : (n : Int) ≤ y
    · have CM := Lib.hid (fun a c W (h : NodesAt W a n c L) => compare_no a n c L x y W h hn1 (.inr (.inl (.inr hyn))))
      clear h hn1 hR
      go_enter Try.func4, Try.ntmps4
      go_wp2_with (first
            | (go_at_call 11; (with_reducible refine (TO.out _ HB.out).mono ?_); rintro e W1 ⟨a1, c1, rfl, hnd, hb⟩; have HND := Lib.hid hnd; have HB := Lib.hid (HB.out.trans (hb.mono HB.out.size)); clear hb hnd)
            | (go_at_call 18; (with_reducible refine (CM.out _ _ _ HND.out).mono ?_); rintro e W1 ⟨rfl, hb⟩; have HB := Lib.hid (HB.out.trans (hb.mono HB.out.size)); clear hb)
            | (go_at_call 9; (with_reducible refine (RR.out _ HB.out).mono ?_); rintro e W1 ⟨rfl, hb⟩; have HB := Lib.hid (HB.out.trans (hb.mono HB.out.size)); clear hb)
            | (go_at_call 16; (with_reducible refine (RO.out _ HB.out).mono ?_); rintro e W1 ⟨ao, co, rfl, ho, hb⟩; have HRO := Lib.hid ho; have HB := Lib.hid (HB.out.trans (hb.mono HB.out.size)); clear hb ho)
            | (go_at_call 14; (with_reducible refine (AW.out _).mono ?_); rintro e W1 ⟨rfl, hb⟩; have HB := Lib.hid (HB.out.trans (hb.mono HB.out.size)); clear hb))
      go_ret
      exact ⟨rfl, HB.out⟩
    obtain ⟨X, rfl⟩ : ∃ X : Nat, x = (X : Int) := ⟨x.toNat, by omega⟩
    obtain ⟨Y, rfl⟩ : ∃ Y : Nat, y = (Y : Int) := ⟨y.toNat, by omega⟩
    have hX : X < n := by omega
    have hY : Y < n := by omega
    obtain ⟨l, hl⟩ := ord_ex hR.2
    obtain ⟨z, hz⟩ : ∃ z, z = cmpT L X Y := ⟨_, rfl⟩
    have CM := Lib.hid (fun a c W (h : NodesAt W a n c L) => compare_yes a n c L X Y W h hn1 hR hX hY z hz.symm)
    have RO := Lib.hid (fun W (hb : Below w.heap.size w W) => refOrder_in hR hl a n c W (h.below hb) hn1)
    have HL := Lib.hid h.1
    have HOL := Lib.hid hl
    have HZ := Lib.hid hz
    have HXN := Lib.hid hX
    have HYN := Lib.hid hY
    have HLN := Lib.hid (show l.length = n from (ordT_length hl).trans h.1)
    clear h hn1 hR hl hz hX hY
    go_enter Try.func4, Try.ntmps4
    go_wp2_with (first
      | (go_at_call 11; (with_reducible refine (TO.out _ HB.out).mono ?_); rintro e W1 ⟨a1, c1, rfl, hnd, hb⟩; have HND := Lib.hid hnd; have HB := Lib.hid (HB.out.trans (hb.mono HB.out.size)); clear hb hnd)
      | (go_at_call 18; (with_reducible refine (CM.out _ _ _ HND.out).mono ?_); rintro e W1 ⟨rfl, hb⟩; have HB := Lib.hid (HB.out.trans (hb.mono HB.out.size)); clear hb)
      | (go_at_call 9; (with_reducible refine (RR.out _ HB.out).mono ?_); rintro e W1 ⟨rfl, hb⟩; have HB := Lib.hid (HB.out.trans (hb.mono HB.out.size)); clear hb)
      | (go_at_call 16; (with_reducible refine (RO.out _ HB.out).mono ?_); rintro e W1 ⟨ao, co, rfl, ho, hb⟩; have HRO := Lib.hid ho; have HB := Lib.hid (HB.out.trans (hb.mono HB.out.size)); clear hb ho)
      | (go_at_call 14; (with_reducible refine (AW.out _).mono ?_); rintro e W1 ⟨rfl, hb⟩; have HB := Lib.hid (HB.out.trans (hb.mono HB.out.size)); clear hb))
    go_loopg [10, 11, 12] n (fun g v10 v11 v12 W => ∃ i p q : Nat, Below W1.heap.size W1 W ∧ v10 = .int .i64 p ∧ v11 = .int .i64 q ∧ v12 = .int .i64 i ∧ g + i = n ∧ Hid (PosTo l X i p) ∧ Hid (PosTo l Y i q))
    case atStart => exact ⟨0, 0, 0, Below.refl _ _, rfl, rfl, rfl, rfl, Lib.hid (fun k hk => by omega), Lib.hid (fun k hk => by omega)⟩
    case round =>
      obtain ⟨i, p, q, hbw, rfl, rfl, rfl, hg, HP, HQ⟩ := hrel
      have HG := Lib.hid hg
      have HBr := Lib.hid hbw
      have hi0 : (0 : Int) ≤ (i : Int) := by omega
      have hiM : (i : Int) ≤ (n : Int) := by omega
      by_cases hi : (i : Int) < (n : Int)
      · have hin : i < n := by omega
        obtain ⟨b, o, rfl⟩ := HRO.out.some_ (by omega)
        have co := (HRO.out.below hbw).cell i hin
        have HI := Lib.hid (show i < l.length by rw [HLN.out]; exact hin)
        have ND := Lib.hid (ordT_nodup HOL.out.1)
        obtain ⟨u, hu⟩ : ∃ u, u = l.getD i 0 := ⟨_, rfl⟩
        have HU := Lib.hid hu
        rw [← hu] at co
        unfold N at co
        clear hu hg
        by_cases hux : u = X
        · have e1 : ((u : Int) == (X : Int)) = true := by simp [hux]
          have HP2 := Lib.hid (PosTo.hit ND.out HI.out (HU.out.symm.trans hux))
          by_cases huy : u = Y
          · have e2 : ((u : Int) == (Y : Int)) = true := by simp [huy]
            have HQ2 := Lib.hid (PosTo.hit ND.out HI.out (HU.out.symm.trans huy))
            clear hux huy
            go_wp2
            go_roundg (n - (i + 1))
            case measure => have := HG.out; omega
            case rel => exact ⟨i + 1, i, i, hbw, rfl, rfl, by go_num, by have := HG.out; omega, HP2, HQ2⟩
          · have e2 : ((u : Int) == (Y : Int)) = false := by simp; omega
            have HQ2 := Lib.hid (HQ.out.miss (by rw [← HU.out]; exact huy))
            clear hux huy
            go_wp2
            go_roundg (n - (i + 1))
            case measure => have := HG.out; omega
            case rel => exact ⟨i + 1, i, q, hbw, rfl, rfl, by go_num, by have := HG.out; omega, HP2, HQ2⟩
        · have e1 : ((u : Int) == (X : Int)) = false := by simp; omega
          have HP2 := Lib.hid (HP.out.miss (by rw [← HU.out]; exact hux))
          by_cases huy : u = Y
          · have e2 : ((u : Int) == (Y : Int)) = true := by simp [huy]
            have HQ2 := Lib.hid (PosTo.hit ND.out HI.out (HU.out.symm.trans huy))
            clear hux huy
            go_wp2
            go_roundg (n - (i + 1))
            case measure => have := HG.out; omega
            case rel => exact ⟨i + 1, p, i, hbw, rfl, rfl, by go_num, by have := HG.out; omega, HP2, HQ2⟩
          · have e2 : ((u : Int) == (Y : Int)) = false := by simp; omega
            have HQ2 := Lib.hid (HQ.out.miss (by rw [← HU.out]; exact huy))
            clear hux huy
            go_wp2
            go_roundg (n - (i + 1))
            case measure => have := HG.out; omega
            case rel => exact ⟨i + 1, p, q, hbw, rfl, rfl, by go_num, by have := HG.out; omega, HP2, HQ2⟩
      · have hin : i = L.length := by have := HL.out; omega
        obtain ⟨p1, p2⟩ := pos_end HOL.out (hin ▸ HP.out) (by rw [HL.out]; exact HXN.out)
        obtain ⟨q1, q2⟩ := pos_end HOL.out (hin ▸ HQ.out) (by rw [HL.out]; exact HYN.out)
        rcases Nat.lt_trichotomy p q with h3 | h3 | h3
        · have hz1 : z = -1 := by
            rw [HZ.out, ← p2, ← q2]
            exact pos_lt HOL.out h3 q1
          have d1 : (p : Int) < (q : Int) := by omega
          have d2 : ¬ (q : Int) < (p : Int) := by omega
          have HB := Lib.hid (HB.out.trans (hbw.mono HB.out.size))
          subst hz1
          clear hg hin p1 p2 q1 q2 h3
          go_wp2_with (first
      | (go_at_call 11; (with_reducible refine (TO.out _ HB.out).mono ?_); rintro e W1 ⟨a1, c1, rfl, hnd, hb⟩; have HND := Lib.hid hnd; have HB := Lib.hid (HB.out.trans (hb.mono HB.out.size)); clear hb hnd)
      | (go_at_call 18; (with_reducible refine (CM.out _ _ _ HND.out).mono ?_); rintro e W1 ⟨rfl, hb⟩; have HB := Lib.hid (HB.out.trans (hb.mono HB.out.size)); clear hb)
      | (go_at_call 9; (with_reducible refine (RR.out _ HB.out).mono ?_); rintro e W1 ⟨rfl, hb⟩; have HB := Lib.hid (HB.out.trans (hb.mono HB.out.size)); clear hb)
      | (go_at_call 16; (with_reducible refine (RO.out _ HB.out).mono ?_); rintro e W1 ⟨ao, co, rfl, ho, hb⟩; have HRO := Lib.hid ho; have HB := Lib.hid (HB.out.trans (hb.mono HB.out.size)); clear hb ho)
      | (go_at_call 14; (with_reducible refine (AW.out _).mono ?_); rintro e W1 ⟨rfl, hb⟩; have HB := Lib.hid (HB.out.trans (hb.mono HB.out.size)); clear hb))
          go_ret
          exact ⟨rfl, HB.out⟩
        · have hz1 : z = 0 := by
            rw [HZ.out, ← p2, ← q2, h3]
            exact wayF_self _
          have d1 : ¬ (p : Int) < (q : Int) := by omega
          have d2 : ¬ (q : Int) < (p : Int) := by omega
          have HB := Lib.hid (HB.out.trans (hbw.mono HB.out.size))
          subst hz1
          clear hg hin p1 p2 q1 q2 h3
          go_wp2_with (first
      | (go_at_call 11; (with_reducible refine (TO.out _ HB.out).mono ?_); rintro e W1 ⟨a1, c1, rfl, hnd, hb⟩; have HND := Lib.hid hnd; have HB := Lib.hid (HB.out.trans (hb.mono HB.out.size)); clear hb hnd)
      | (go_at_call 18; (with_reducible refine (CM.out _ _ _ HND.out).mono ?_); rintro e W1 ⟨rfl, hb⟩; have HB := Lib.hid (HB.out.trans (hb.mono HB.out.size)); clear hb)
      | (go_at_call 9; (with_reducible refine (RR.out _ HB.out).mono ?_); rintro e W1 ⟨rfl, hb⟩; have HB := Lib.hid (HB.out.trans (hb.mono HB.out.size)); clear hb)
      | (go_at_call 16; (with_reducible refine (RO.out _ HB.out).mono ?_); rintro e W1 ⟨ao, co, rfl, ho, hb⟩; have HRO := Lib.hid ho; have HB := Lib.hid (HB.out.trans (hb.mono HB.out.size)); clear hb ho)
      | (go_at_call 14; (with_reducible refine (AW.out _).mono ?_); rintro e W1 ⟨rfl, hb⟩; have HB := Lib.hid (HB.out.trans (hb.mono HB.out.size)); clear hb))
          go_ret
          exact ⟨rfl, HB.out⟩
        · have hz1 : z = 1 := by
            have h4 := pos_lt HOL.out h3 p1
            rw [HZ.out, ← p2, ← q2, cmpT_anti, h4]
            rfl
          have d1 : ¬ (p : Int) < (q : Int) := by omega
          have d2 : (q : Int) < (p : Int) := by omega
          have HB := Lib.hid (HB.out.trans (hbw.mono HB.out.size))
          subst hz1
          clear hg hin p1 p2 q1 q2 h3
          go_wp2_with (first
      | (go_at_call 11; (with_reducible refine (TO.out _ HB.out).mono ?_); rintro e W1 ⟨a1, c1, rfl, hnd, hb⟩; have HND := Lib.hid hnd; have HB := Lib.hid (HB.out.trans (hb.mono HB.out.size)); clear hb hnd)
      | (go_at_call 18; (with_reducible refine (CM.out _ _ _ HND.out).mono ?_); rintro e W1 ⟨rfl, hb⟩; have HB := Lib.hid (HB.out.trans (hb.mono HB.out.size)); clear hb)
      | (go_at_call 9; (with_reducible refine (RR.out _ HB.out).mono ?_); rintro e W1 ⟨rfl, hb⟩; have HB := Lib.hid (HB.out.trans (hb.mono HB.out.size)); clear hb)
      | (go_at_call 16; (with_reducible refine (RO.out _ HB.out).mono ?_); rintro e W1 ⟨ao, co, rfl, ho, hb⟩; have HRO := Lib.hid ho; have HB := Lib.hid (HB.out.trans (hb.mono HB.out.size)); clear hb ho)
      | (go_at_call 14; (with_reducible refine (AW.out _).mono ?_); rintro e W1 ⟨rfl, hb⟩; have HB := Lib.hid (HB.out.trans (hb.mono HB.out.size)); clear hb))
          go_ret
          exact ⟨rfl, HB.out⟩
  · have RR := Lib.hid (fun W (hb : Below w.heap.size w W) => refRight_any a n c L W (h.below hb) hn1 false ⟨fun h => (Bool.false_ne_true h).elim, fun h => absurd h hR⟩)
    have CM := Lib.hid (fun a c W (h : NodesAt W a n c L) => compare_no a n c L x y W h hn1 (.inr (.inr hR)))
    clear h hn1 hR
    go_enter Try.func4, Try.ntmps4
    go_wp2_with (first
          | (go_at_call 11; (with_reducible refine (TO.out _ HB.out).mono ?_); rintro e W1 ⟨a1, c1, rfl, hnd, hb⟩; have HND := Lib.hid hnd; have HB := Lib.hid (HB.out.trans (hb.mono HB.out.size)); clear hb hnd)
          | (go_at_call 18; (with_reducible refine (CM.out _ _ _ HND.out).mono ?_); rintro e W1 ⟨rfl, hb⟩; have HB := Lib.hid (HB.out.trans (hb.mono HB.out.size)); clear hb)
          | (go_at_call 9; (with_reducible refine (RR.out _ HB.out).mono ?_); rintro e W1 ⟨rfl, hb⟩; have HB := Lib.hid (HB.out.trans (hb.mono HB.out.size)); clear hb)
          | (go_at_call 16; (with_reducible refine (RO.out _ HB.out).mono ?_); rintro e W1 ⟨ao, co, rfl, ho, hb⟩; have HRO := Lib.hid ho; have HB := Lib.hid (HB.out.trans (hb.mono HB.out.size)); clear hb ho)
          | (go_at_call 14; (with_reducible refine (AW.out _).mono ?_); rintro e W1 ⟨rfl, hb⟩; have HB := Lib.hid (HB.out.trans (hb.mono HB.out.size)); clear hb))
    go_ret
    exact ⟨rfl, HB.out⟩
end Go.Proofs.Ytmenhbdapikpeaa
