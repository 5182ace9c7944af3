/-
  The walk of told: elements as the program's.
-/
import Derived.Test.YtmenhbdapikpeaaTreeLit
import Derived.Test.YtmenhbdapikpeaaIntSort
import Derived.Deep.RegionHeld
namespace Go.Proofs.Ytmenhbdapikpeaa
open Go.RowKit

/-- A slice of elements made anew; what was there stands. -/
def ToldIs (E : TypeId) (L : List NodeV) (w : World) (e : Ending) (w' : World) : Prop := ∃ a c, e = .returned (.slice a L.length c) ∧ OwnT E w' w.heap.size (.slice a L.length c) L ∧ Below w.heap.size w w'

theorem take_nd {L : List NodeV} {j : Nat} (h : j < L.length) : L.take (j + 1) = L.take j ++ [nd L j] := by
  rw [List.take_succ_eq_append_getElem h]
  unfold nd
  simp [h]

set_option maxRecDepth 100000 in
set_option maxHeartbeats 2000000 in
theorem told_any (a : Option Addr) (n c : Nat) (L : List NodeV) (w : World) (h : NodesAt w a n c L) (hn : n ≤ 1000) :
    Calls Try.prog 11 #[.slice a n c] w (ToldIs 44 L w) := by
  have HL := Lib.hid h.1
  have HN := Lib.hid h
  have hnI : (n : Int) ≤ 1000 := by omega
  have HM := Lib.hid hn
  clear h hn
  go_enter Try.func11, Try.ntmps11
  go_wp2
  go_loopg [3, 4] n (fun g v3 v4 W => ∃ j : Nat, Below w.heap.size w W ∧ v4 = .int .i64 j ∧ g + j = n ∧ ∃ a' c', v3 = .slice a' j c' ∧ Hid (OwnT 44 W w.heap.size (.slice a' j c') (L.take j)))
  case atStart => exact ⟨0, Below.refl _ _, rfl, rfl, none, 0, rfl, Lib.hid OwnT.nil⟩
  case round =>
    obtain ⟨j, hbw, rfl, hg, a', c', rfl, HO⟩ := hrel
    have HG := Lib.hid hg
    have HB := Lib.hid hbw
    have hj0 : (0 : Int) ≤ (j : Int) := by omega
    have hjI : (j : Int) ≤ (n : Int) := by omega
    by_cases hj : (j : Int) < (n : Int)
    · have hjn : j < n := by omega
      obtain ⟨b, o, rfl⟩ := HN.out.some_ (by omega)
      have HJ := Lib.hid hjn
      have HX := Lib.hid (HN.out.ok hjn)
      have HT := Lib.hid (take_nd (L := L) (j := j) (by rw [HL.out]; exact hjn))
      have HP := Lib.hid (fun W (hW : Below w.heap.size w W) => (HN.out.below hW).par j hjn)
      have HR := Lib.hid (fun W (hW : Below w.heap.size w W) => (HN.out.below hW).run j hjn)
      have HD := Lib.hid (fun W (hW : Below w.heap.size w W) => (HN.out.below hW).dead j hjn)
      obtain ⟨x, hx⟩ : ∃ x, x = nd L j := ⟨_, rfl⟩
      have HK0 := Lib.hid hx
      rw [← hx] at HX HT HP HR HD
      obtain ⟨k, p, r, d⟩ := x
      have HK : Hid ((nd L j).k = k) := Lib.hid (by rw [← HK0.out])
      simp only at HP HR HD
      clear hg hx
      go_wp2
      have HO1 : Hid (OwnT 44 wr.drew w.heap.size (.slice a' j c') (L.take j)) := Lib.hid (HO.out.below (Below.refl _ _).drew)
      have HS1 : Hid (Below w.heap.size w wr.drew) := Lib.hid HB.out.drew
      refine wp_region_held_drew (S := fun W => Below w.heap.size w W) (by kernel_rfl) HS1.out (fun hHeld => ?_)
      refine wpAnyH_take (i := 0) (oi := ⟨some 11, .move (.tmp 3), _, _, _, _⟩) (v := (.slice a' j c')) rfl (by kernel_rfl) (by kernel_rfl) (by kernel_rfl) (fun _ _ _ h => h) (Or.inl ⟨by rfl, fun W hW => by go_simp⟩) (by assumption) ?_
      simp only [Act.put, List.setIfInBounds_toArray, List.set_cons_zero, List.set_cons_succ]
      refine wpAnyH_take (i := 1) (oi := ⟨some 12, .move (.tmp 0), _, _, _, _⟩) (v := (.slice (some ⟨b, o, none⟩) n c)) rfl (by kernel_rfl) (by kernel_rfl) (by kernel_rfl) (fun _ _ _ h => h) (Or.inl ⟨by rfl, fun W hW => by go_simp⟩) (by assumption) ?_
      simp only [Act.put, List.setIfInBounds_toArray, List.set_cons_zero, List.set_cons_succ]
      refine wpAnyH_take (i := 2) (oi := ⟨some 13, .move (.tmp 4), _, _, _, _⟩) (v := (.int .i64 (j : Nat))) rfl (by kernel_rfl) (by kernel_rfl) (by kernel_rfl) (fun _ _ _ h => h) (Or.inl ⟨by rfl, fun W hW => by go_simp⟩) (by assumption) ?_
      simp only [Act.put, List.setIfInBounds_toArray, List.set_cons_zero, List.set_cons_succ]
      refine wpAnyH_take (i := 3) (oi := ⟨some 14, .indexAddr 22 (.tmp 12) (.tmp 13), _, _, _, _⟩) (v := (.pointer (some ⟨b, o + j * 37, none⟩))) rfl (by kernel_rfl) (by kernel_rfl) (by kernel_rfl) (fun _ _ _ h => h) (Or.inl ⟨by rfl, fun W hW => by go_simp⟩) (by assumption) ?_
      simp only [Act.put, List.setIfInBounds_toArray, List.set_cons_zero, List.set_cons_succ]
      refine wpAnyH_take (i := 4) (oi := ⟨some 15, .fieldAddr 43 (.tmp 14) 0, _, _, _, _⟩) (v := (.pointer (some ⟨b, o + j * 37, none⟩))) rfl (by kernel_rfl) (by kernel_rfl) (by kernel_rfl) (fun _ _ _ h => h) (Or.inl ⟨by rfl, fun W hW => by go_simp⟩) (by assumption) ?_
      simp only [Act.put, List.setIfInBounds_toArray, List.set_cons_zero, List.set_cons_succ]
      refine wpAnyH_take (i := 5) (oi := ⟨some 16, .load 41 (.tmp 15), _, _, _, _⟩) (v := (.agg (keyC k))) rfl (by kernel_rfl) (by kernel_rfl) (by kernel_rfl) (fun _ _ _ h => h) (Or.inl ⟨by rfl, fun W hW => exec_loadKey _ rfl _ _ _ HX.out.1 rfl (by rw [← HK.out]; exact (HN.out.below hW).key j HJ.out)⟩) (by assumption) ?_
      simp only [Act.put, List.setIfInBounds_toArray, List.set_cons_zero, List.set_cons_succ]
      refine wpAnyH_take (i := 6) (oi := ⟨some 17, .move (.tmp 0), _, _, _, _⟩) (v := (.slice (some ⟨b, o, none⟩) n c)) rfl (by kernel_rfl) (by kernel_rfl) (by kernel_rfl) (fun _ _ _ h => h) (Or.inl ⟨by rfl, fun W hW => by go_simp⟩) (by assumption) ?_
      simp only [Act.put, List.setIfInBounds_toArray, List.set_cons_zero, List.set_cons_succ]
      refine wpAnyH_take (i := 7) (oi := ⟨some 18, .move (.tmp 4), _, _, _, _⟩) (v := (.int .i64 (j : Nat))) rfl (by kernel_rfl) (by kernel_rfl) (by kernel_rfl) (fun _ _ _ h => h) (Or.inl ⟨by rfl, fun W hW => by go_simp⟩) (by assumption) ?_
      simp only [Act.put, List.setIfInBounds_toArray, List.set_cons_zero, List.set_cons_succ]
      refine wpAnyH_take (i := 8) (oi := ⟨some 19, .indexAddr 22 (.tmp 17) (.tmp 18), _, _, _, _⟩) (v := (.pointer (some ⟨b, o + j * 37, none⟩))) rfl (by kernel_rfl) (by kernel_rfl) (by kernel_rfl) (fun _ _ _ h => h) (Or.inl ⟨by rfl, fun W hW => by go_simp⟩) (by assumption) ?_
      simp only [Act.put, List.setIfInBounds_toArray, List.set_cons_zero, List.set_cons_succ]
      refine wpAnyH_take (i := 9) (oi := ⟨some 20, .fieldAddr 43 (.tmp 19) 1, _, _, _, _⟩) (v := (.pointer (some ⟨b, o + j * 37 + 34, none⟩))) rfl (by kernel_rfl) (by kernel_rfl) (by kernel_rfl) (fun _ _ _ h => h) (Or.inl ⟨by rfl, fun W hW => by go_simp⟩) (by assumption) ?_
      simp only [Act.put, List.setIfInBounds_toArray, List.set_cons_zero, List.set_cons_succ]
      refine wpAnyH_take (i := 10) (oi := ⟨some 21, .load 3 (.tmp 20), _, _, _, _⟩) (v := (.int .i64 p)) rfl (by kernel_rfl) (by kernel_rfl) (by kernel_rfl) (fun _ _ _ h => h) (Or.inl ⟨by rfl, fun W hW => by have hcell := HP.out W hW; go_simp⟩) (by assumption) ?_
      simp only [Act.put, List.setIfInBounds_toArray, List.set_cons_zero, List.set_cons_succ]
      refine wpAnyH_take (i := 11) (oi := ⟨some 22, .move (.tmp 0), _, _, _, _⟩) (v := (.slice (some ⟨b, o, none⟩) n c)) rfl (by kernel_rfl) (by kernel_rfl) (by kernel_rfl) (fun _ _ _ h => h) (Or.inl ⟨by rfl, fun W hW => by go_simp⟩) (by assumption) ?_
      simp only [Act.put, List.setIfInBounds_toArray, List.set_cons_zero, List.set_cons_succ]
      refine wpAnyH_take (i := 12) (oi := ⟨some 23, .move (.tmp 4), _, _, _, _⟩) (v := (.int .i64 (j : Nat))) rfl (by kernel_rfl) (by kernel_rfl) (by kernel_rfl) (fun _ _ _ h => h) (Or.inl ⟨by rfl, fun W hW => by go_simp⟩) (by assumption) ?_
      simp only [Act.put, List.setIfInBounds_toArray, List.set_cons_zero, List.set_cons_succ]
      refine wpAnyH_take (i := 13) (oi := ⟨some 24, .indexAddr 22 (.tmp 22) (.tmp 23), _, _, _, _⟩) (v := (.pointer (some ⟨b, o + j * 37, none⟩))) rfl (by kernel_rfl) (by kernel_rfl) (by kernel_rfl) (fun _ _ _ h => h) (Or.inl ⟨by rfl, fun W hW => by go_simp⟩) (by assumption) ?_
      simp only [Act.put, List.setIfInBounds_toArray, List.set_cons_zero, List.set_cons_succ]
      refine wpAnyH_take (i := 14) (oi := ⟨some 25, .fieldAddr 43 (.tmp 24) 2, _, _, _, _⟩) (v := (.pointer (some ⟨b, o + j * 37 + 35, none⟩))) rfl (by kernel_rfl) (by kernel_rfl) (by kernel_rfl) (fun _ _ _ h => h) (Or.inl ⟨by rfl, fun W hW => by go_simp⟩) (by assumption) ?_
      simp only [Act.put, List.setIfInBounds_toArray, List.set_cons_zero, List.set_cons_succ]
      refine wpAnyH_take (i := 15) (oi := ⟨some 26, .load 21 (.tmp 25), _, _, _, _⟩) (v := (.int .i32 r)) rfl (by kernel_rfl) (by kernel_rfl) (by kernel_rfl) (fun _ _ _ h => h) (Or.inl ⟨by rfl, fun W hW => by have hcell := HR.out W hW; go_simp⟩) (by assumption) ?_
      simp only [Act.put, List.setIfInBounds_toArray, List.set_cons_zero, List.set_cons_succ]
      refine wpAnyH_take (i := 16) (oi := ⟨some 27, .move (.tmp 0), _, _, _, _⟩) (v := (.slice (some ⟨b, o, none⟩) n c)) rfl (by kernel_rfl) (by kernel_rfl) (by kernel_rfl) (fun _ _ _ h => h) (Or.inl ⟨by rfl, fun W hW => by go_simp⟩) (by assumption) ?_
      simp only [Act.put, List.setIfInBounds_toArray, List.set_cons_zero, List.set_cons_succ]
      refine wpAnyH_take (i := 17) (oi := ⟨some 28, .move (.tmp 4), _, _, _, _⟩) (v := (.int .i64 (j : Nat))) rfl (by kernel_rfl) (by kernel_rfl) (by kernel_rfl) (fun _ _ _ h => h) (Or.inl ⟨by rfl, fun W hW => by go_simp⟩) (by assumption) ?_
      simp only [Act.put, List.setIfInBounds_toArray, List.set_cons_zero, List.set_cons_succ]
      refine wpAnyH_take (i := 18) (oi := ⟨some 29, .indexAddr 22 (.tmp 27) (.tmp 28), _, _, _, _⟩) (v := (.pointer (some ⟨b, o + j * 37, none⟩))) rfl (by kernel_rfl) (by kernel_rfl) (by kernel_rfl) (fun _ _ _ h => h) (Or.inl ⟨by rfl, fun W hW => by go_simp⟩) (by assumption) ?_
      simp only [Act.put, List.setIfInBounds_toArray, List.set_cons_zero, List.set_cons_succ]
      refine wpAnyH_take (i := 19) (oi := ⟨some 30, .fieldAddr 43 (.tmp 29) 3, _, _, _, _⟩) (v := (.pointer (some ⟨b, o + j * 37 + 36, none⟩))) rfl (by kernel_rfl) (by kernel_rfl) (by kernel_rfl) (fun _ _ _ h => h) (Or.inl ⟨by rfl, fun W hW => by go_simp⟩) (by assumption) ?_
      simp only [Act.put, List.setIfInBounds_toArray, List.set_cons_zero, List.set_cons_succ]
      refine wpAnyH_take (i := 20) (oi := ⟨some 31, .load 4 (.tmp 30), _, _, _, _⟩) (v := (.bool d)) rfl (by kernel_rfl) (by kernel_rfl) (by kernel_rfl) (fun _ _ _ h => h) (Or.inl ⟨by rfl, fun W hW => by have hcell := HD.out W hW; go_simp⟩) (by assumption) ?_
      simp only [Act.put, List.setIfInBounds_toArray, List.set_cons_zero, List.set_cons_succ]
      refine wpAnyH_take (i := 21) (oi := ⟨some 32, .build 44 #[(0, (.tmp 16)), (1, (.tmp 21)), (2, (.tmp 26)), (3, (.tmp 31))], _, _, _, _⟩) (v := (.agg (nodeC ⟨k, p, r, d⟩))) rfl (by kernel_rfl) (by kernel_rfl) (by kernel_rfl) (fun _ _ _ h => h) (Or.inl ⟨by rfl, fun W hW => exec_node _ _ _ _ rfl k HX.out.1 p r d rfl rfl rfl rfl⟩) (by assumption) ?_
      simp only [Act.put, List.setIfInBounds_toArray, List.set_cons_zero, List.set_cons_succ]
      refine wpAnyH_ready (rs := [22]) (by kernel_rfl) (by simp) ?_
      refine AllReadyH.cons (o := ⟨some 33, .buildSlice 25 1 #[(0, (.tmp 32))], _, _, _, _⟩) rfl (fun K hK => ?_) AllReadyH.nil
      refine ready_step (wp_sl_node Try.underlying25 infoT _ rfl ⟨k, p, r, d⟩ HX.out rfl ?_)
      have HS2 := Lib.hid (HS1.out.alloc HS1.out.size (.cells (nodeC ⟨k, p, r, d⟩) 44))
      refine hK.out _ _ HS2.out (fun hHeld => ?_)
      clear hK K
      refine wpAnyH_ready (rs := [23]) (by kernel_rfl) (by simp) ?_
      refine AllReadyH.cons (o := ⟨some 34, .call { callee := .builtin .append, args := #[(.tmp 11), (.tmp 33)], argTypes := #[25, 25] }, _, _, _, _⟩) rfl (fun K hK => ?_) AllReadyH.nil
      refine ready_step (wp_app_nodes Try.underlying25 infoT (by decide) _ _ rfl w.heap.size _ (L.take j) rfl (HO1.out.alloc _) _ 1 1 [⟨k, p, r, d⟩] rfl (one_node wr.drew ⟨k, p, r, d⟩ HX.out _ _ rfl) (by have := HM.out; rw [List.length_take]; omega) HS2.out.size (j + 1) (by rw [List.length_take, HL.out]; omega) ?_); intro a2 c2 W2 ho2 hg2
      have HS3 := Lib.hid (HS2.out.grown hg2 HS2.out.size (fun k hk => (HO1.out.lt k hk).1))
      refine hK.out _ _ HS3.out (fun hHeld => ?_)
      clear hK K
      refine wpAnyH_take (i := 24) (oi := ⟨some 3, .assign (.tmp 34), _, _, _, _⟩) (v := (.slice a2 (j + 1) c2)) rfl (by kernel_rfl) (by kernel_rfl) (by kernel_rfl) (fun _ _ _ h => h) (Or.inl ⟨by rfl, fun W hW => by go_simp⟩) (by assumption) ?_
      simp only [Act.put, List.setIfInBounds_toArray, List.set_cons_zero, List.set_cons_succ]
      refine wpAnyH_done (by kernel_rfl) ?_ _
      go_wp2
      go_roundg (gk - 1)
      case measure => have := HG.out; omega
      case rel =>
        exact ⟨j + 1, HS3.out, by go_num, by have := HG.out; omega, a2, c2, rfl, Lib.hid (by rw [HT.out]; exact ho2)⟩
    · have hjn : j = n := by omega
      subst hjn
      clear hg
      go_wp2
      go_ret
      have ho := HO.out
      have e : L.take j = L := List.take_of_length_le (by rw [HL.out]; omega)
      rw [e] at ho
      refine ⟨a', c', ?_, ?_, HB.out⟩
      · show Ending.returned (.slice a' j c') = _
        rw [HL.out]
      · rw [HL.out]; exact ho
#print axioms told_any
end Go.Proofs.Ytmenhbdapikpeaa
