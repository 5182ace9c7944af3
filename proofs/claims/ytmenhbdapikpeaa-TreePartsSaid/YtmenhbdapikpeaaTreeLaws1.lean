/-
  The laws of the one order and its text, and of which stands ahead, walked.
-/
import Derived.Test.YtmenhbdapikpeaaTreeCmp
namespace Go.Proofs.Ytmenhbdapikpeaa
open Go.RowKit

section
variable {a : Option Addr} {n c : Nat} {L : List NodeV} {w : World}
theorem told_in (h : NodesAt w a n c L) (hn : n ≤ 1000) (W : World) (hb : Below w.heap.size w W) : Calls Try.prog 11 #[.slice a n c] W fun e w' => ∃ a1 c1, e = .returned (.slice a1 n c1) ∧ NodesAt w' a1 n c1 L ∧ Below W.heap.size W w' := by
  refine (told_any a n c L W (h.below hb) hn).mono ?_
  rintro e w' ⟨a1, c1, rfl, h1, h2⟩
  rw [h.1] at h1 ⊢
  exact ⟨a1, c1, rfl, h1.isNodes, h2⟩
end
theorem order_in {L : List NodeV} {l : List Nat} (hR : RightT L) (hl : OrdT L l) (a : Option Addr) (n c : Nat) (W : World) (h : NodesAt W a n c L) (hn : n ≤ 1000) : Calls Try.prog 12 #[.slice a n c] W fun e w' => ∃ a1 c1, e = .returned (.slice a1 n c1) ∧ At1 N w' a1 n c1 l ∧ Below W.heap.size W w' := by
  refine (order_any a n c L W h hn hR).mono ?_
  rintro e w' ⟨a1, c1, l', rfl, h1, h2, h3⟩
  rw [ordT_unique h1 hl] at h2
  rw [h.1] at h2 ⊢
  exact ⟨a1, c1, rfl, h2.at1, h3⟩
theorem refOrder_in {L : List NodeV} {l : List Nat} (hR : RightT L) (hl : OrdT L l) (a : Option Addr) (n c : Nat) (W : World) (h : NodesAt W a n c L) (hn : n ≤ 1000) : Calls Try.prog 16 #[.slice a n c] W fun e w' => ∃ a1 c1, e = .returned (.slice a1 n c1) ∧ At1 N w' a1 n c1 l ∧ Below W.heap.size W w' := by
  refine (refOrder_any a n c L W h hn hR.2).mono ?_
  rintro e w' ⟨a1, c1, l', rfl, h1, h2, h3⟩
  rw [ordT_unique h1 hl] at h2
  rw [h.1] at h2 ⊢
  exact ⟨a1, c1, rfl, h2.at1, h3⟩
/-- The one order is there. -/
theorem ord_ex {L : List NodeV} (hT : TreeP L) : ∃ l, OrdT L l := by
  obtain ⟨cs, hcs⟩ : ∃ f : Nat → Nat → Bool, f = fun a b => decide (cmpT L a b ≤ 0) := ⟨_, rfl⟩
  refine ⟨(List.range L.length).mergeSort cs, ?_, fun i => by rw [(List.mergeSort_perm _ _).mem_iff]; simp⟩
  have h := List.pairwise_mergeSort (le := cs) (fun a b c h1 h2 => by
    rw [hcs] at h1 h2 ⊢
    simp only [decide_eq_true_eq] at h1 h2 ⊢
    rcases Int.lt_or_eq_of_le h1 with h1 | h1
    · rcases Int.lt_or_eq_of_le h2 with h2 | h2
      · exact Int.le_of_lt (cmpT_trans h1 h2)
      · unfold cmpT at *
        rw [wayF_eq h2] at h1
        omega
    · unfold cmpT at *
      rw [wayF_eq h1]
      exact h2) (fun a b => by
    rw [hcs]
    simp only [Bool.or_eq_true, decide_eq_true_eq]
    have := cmpT_anti L a b
    omega) (List.range L.length)
  have hnd := (List.mergeSort_perm (List.range L.length) cs).nodup_iff.2 List.nodup_range
  refine (List.Pairwise.and_mem.1 (h.and hnd)).imp (fun {a b} h => ?_)
  obtain ⟨ha, hb, h1, h2⟩ := h
  rw [hcs] at h1
  simp only [decide_eq_true_eq] at h1
  rcases Int.lt_or_eq_of_le h1 with h1 | h1
  · exact h1
  · rw [(List.mergeSort_perm _ _).mem_iff] at ha hb
    exact absurd (cmpT_eq hT (by simpa using ha) (by simpa using hb) h1) h2

set_option maxRecDepth 100000 in
set_option maxHeartbeats 4000000 in
theorem treeOrders_any (a : Option Addr) (n c : Nat) (L : List NodeV) (w : World) (h : NodesAt w a n c L) :
    Calls Try.prog 3 #[.slice a n c] w fun e w' => e = .returned (.bool true) ∧ Below w.heap.size w w' := by
  by_cases hn : (60 : Int) < (n : Int)
  · clear h
    go_enter Try.func3, Try.ntmps3
    go_wp2
    go_ret
    exact ⟨rfl, Below.refl _ _⟩
  have hn1 : n ≤ 1000 := by omega
  have HN := Lib.hid h
  have HM := Lib.hid hn1
  have AW := Lib.hid (fun W => awake_any W)
  have TO := Lib.hid (told_in h hn1)
  have HB := Lib.hid (Below.refl w.heap.size w)
  have e0 : ((strB []).toList == []) = true := by rw [Lib.toList_data, strB_list]; rfl
  by_cases hR : RightT L
  · obtain ⟨l, hl⟩ := ord_ex hR.2
    have RR := Lib.hid (refRight_any a n c L w h hn1 true ⟨fun _ => hR, fun _ => rfl⟩)
    have RI := Lib.hid (fun a c W (h : NodesAt W a n c L) => right_any a n c L W h hn1 true ⟨fun _ => hR, fun _ => rfl⟩)
    have OR := Lib.hid (fun a c W (h : NodesAt W a n c L) => order_in hR hl a n c W h hn1)
    have RO := Lib.hid (fun W (hb : Below w.heap.size w W) => refOrder_in hR hl a n c W (h.below hb) hn1)
    have TX := Lib.hid (fun a c W (h : NodesAt W a n c L) => treeText_any a n c L W h hn1 hR l hl)
    have RT := Lib.hid (fun W (hb : Below w.heap.size w W) => refTreeText_any a n c L W (h.below hb) hn1 hR l hl)
    obtain ⟨s, hs⟩ : ∃ s, s = strB (textT L l) := ⟨_, rfl⟩
    rw [← hs] at TX RT
    clear h hn1 hR hl hs e0
    go_enter Try.func3, Try.ntmps3
    go_wp2_with (first
      | (go_at_call 9; (with_reducible refine RR.out.mono ?_); rintro e W1 ⟨rfl, hb⟩; have HB := Lib.hid (HB.out.trans (hb.mono HB.out.size)); clear hb)
      | (go_at_call 11; (with_reducible refine (TO.out _ HB.out).mono ?_); rintro e W1 ⟨a1, c1, rfl, hnd, hb⟩; have HND := Lib.hid hnd; have HB := Lib.hid (HB.out.trans (hb.mono HB.out.size)); clear hb hnd)
      | (go_at_call 10; (with_reducible refine (RI.out _ _ _ HND.out).mono ?_); rintro e W1 ⟨rfl, hb⟩; have HB := Lib.hid (HB.out.trans (hb.mono HB.out.size)); clear hb)
      | (go_at_call 12; (with_reducible refine (OR.out _ _ _ HND.out).mono ?_); rintro e W1 ⟨ao, co, rfl, ho, hb⟩; have HO := Lib.hid ho; have HB := Lib.hid (HB.out.trans (hb.mono HB.out.size)); clear hb ho)
      | (go_at_call 16; (with_reducible refine (RO.out _ HB.out).mono ?_); rintro e W1 ⟨ar, cr, rfl, ho, hb⟩; have HO := Lib.hid (HO.out.below hb); have HRO := Lib.hid ho; have HB := Lib.hid (HB.out.trans (hb.mono HB.out.size)); clear hb ho)
      | (go_at_call 15; go_must (refine (ints_any ao n co l ar n cr l _ HO.out HRO.out (by have := HM.out; omega)).mono ?_); rintro e W1 ⟨rfl, hb⟩; have HB := Lib.hid (HB.out.trans (hb.mono HB.out.size)); clear hb; rw [decide_eq_true rfl])
      | (go_at_call 13; (with_reducible refine (TX.out _ _ _ HND.out).mono ?_); rintro e W1 ⟨rfl, hb⟩; have HB := Lib.hid (HB.out.trans (hb.mono HB.out.size)); clear hb)
      | (go_at_call 17; (with_reducible refine (RT.out _ HB.out).mono ?_); rintro e W1 ⟨rfl, hb⟩; have HB := Lib.hid (HB.out.trans (hb.mono HB.out.size)); clear hb)
      | (go_at_call 14; (with_reducible refine (AW.out _).mono ?_); rintro e W1 ⟨rfl, hb⟩; have HB := Lib.hid (HB.out.trans (hb.mono HB.out.size)); clear hb))
    go_ret
    exact ⟨rfl, HB.out⟩
  · have RR := Lib.hid (refRight_any a n c L w h hn1 false ⟨fun h => (Bool.false_ne_true h).elim, fun h => absurd h hR⟩)
    have RI := Lib.hid (fun a c W (h : NodesAt W a n c L) => right_any a n c L W h hn1 false ⟨fun h => (Bool.false_ne_true h).elim, fun h => absurd h hR⟩)
    have OR := Lib.hid (fun a c W (h : NodesAt W a n c L) => order_no a n c L W h hn1 hR)
    have TX := Lib.hid (fun a c W (h : NodesAt W a n c L) => treeText_no a n c L W h hn1 hR)
    clear h hn1 hR
    go_enter Try.func3, Try.ntmps3
    go_wp2_with (first
      | (go_at_call 9; (with_reducible refine RR.out.mono ?_); rintro e W1 ⟨rfl, hb⟩; have HB := Lib.hid (HB.out.trans (hb.mono HB.out.size)); clear hb)
      | (go_at_call 11; (with_reducible refine (TO.out _ HB.out).mono ?_); rintro e W1 ⟨a1, c1, rfl, hnd, hb⟩; have HND := Lib.hid hnd; have HB := Lib.hid (HB.out.trans (hb.mono HB.out.size)); clear hb hnd)
      | (go_at_call 10; (with_reducible refine (RI.out _ _ _ HND.out).mono ?_); rintro e W1 ⟨rfl, hb⟩; have HB := Lib.hid (HB.out.trans (hb.mono HB.out.size)); clear hb)
      | (go_at_call 12; (with_reducible refine (OR.out _ _ _ HND.out).mono ?_); rintro e W1 ⟨rfl, hb⟩; have HB := Lib.hid (HB.out.trans (hb.mono HB.out.size)); clear hb)
      | (go_at_call 13; (with_reducible refine (TX.out _ _ _ HND.out).mono ?_); rintro e W1 ⟨rfl, hb⟩; have HB := Lib.hid (HB.out.trans (hb.mono HB.out.size)); clear hb)
      | (go_at_call 14; (with_reducible refine (AW.out _).mono ?_); rintro e W1 ⟨rfl, hb⟩; have HB := Lib.hid (HB.out.trans (hb.mono HB.out.size)); clear hb))
    go_ret
    exact ⟨rfl, HB.out⟩
#print axioms treeOrders_any
end Go.Proofs.Ytmenhbdapikpeaa
