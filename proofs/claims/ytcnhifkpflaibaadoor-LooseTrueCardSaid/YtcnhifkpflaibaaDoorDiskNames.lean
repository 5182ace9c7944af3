/-
  The walks of names, List, Used, Refused, Down, Arm, New, Read; of all of them at a disk that is not there.
-/
import Derived.Test.YtcnhifkpflaibaaDoorDiskTurn
import Derived.Test.YtcnhifkpflaibaaDoorDiskShelf
import Derived.Laws.OwnMore
namespace Go.Proofs.YtcnhifkpflaibaaDoor
open Go.RowKit Go.Maps Go.Sort Go.Shelf

theorem sort_names {l : Dir} (hs : SortedD l) {ss : List Nm} (h : ss.Perm (names l)) : ss.mergeSort leB = names l := by
  have h1 := mergeSort_of_perm h
  have h2 : (names l).mergeSort leB = names l := List.mergeSort_of_pairwise ((names_sorted hs).imp fun {a b} hab => by
    simp only [leB, decide_eq_true_eq]; exact List.le_of_lt hab)
  exact h1.trans h2
/-- What is told of names: a new slice. -/
def NamesEnd (w : World) (L : List Nm) (e : Ending) (w' : World) : Prop := ∃ a c, e = .returned (.slice a L.length c) ∧ At1 St w' a L.length c L ∧ Below w.heap.size w w' ∧ ∀ g off, a = some ⟨g, off, none⟩ → w.heap.size ≤ g

set_option maxRecDepth 100000 in
set_option maxHeartbeats 1000000 in
theorem names_any (b n : Nat) (bl : List Nat) (l : Dir) (w : World) (hD : DirAt w b bl n (look l)) (hs : SortedD l) (hl : l.length ≤ 1000000) :
    Calls Tryd.prog 24 #[.map (some b)] w (NamesEnd w (names l)) := by
  obtain ⟨D, h1, h2, h3⟩ := hD
  have hp := DirAt.perm hs h1 h3
  have hsz : Maps.size D = l.length := by
    obtain ⟨es, he⟩ := h1.isMap
    have := hp.length_eq
    rw [he] at this ⊢
    simp only [names, List.length_map, strKeys] at this
    rw [this]; rfl
  have H := Lib.hid (show ∀ (v : Value) (ss : List Nm) (w' : World), ss.Perm (strKeys D) → w'.ownsRow w.heap.size 9 1 v ss.length ((ss.mergeSort (fun x y => decide (x ≤ y))).map encStr) → Below w.heap.size w w' → NamesEnd w (names l) (.returned v) w' from fun v ss w' hS hrow hb => by
    have e1 : ss.mergeSort (fun x y => decide (x ≤ y)) = names l := sort_names hs (hS.trans hp.symm)
    rw [e1] at hrow
    have e2 : ss.length = (names l).length := (hS.trans hp.symm).length_eq
    rw [e2] at hrow
    have ho : Own1 St 9 w' w.heap.size v (names l) := hrow
    obtain ⟨a, c, rfl, hat⟩ := ho.at1_
    exact ⟨a, c, rfl, hat, hb, fun g off e => (ho.lt g (by rw [e]; rfl)).1⟩)
  have hmax : Maps.size D ≤ maxLen := by unfold maxLen; omega
  have hby : Maps.size D * 16 ≤ 140737488355328 := by omega
  have K := Lib.hid (Tryd.maps_Keys_disk (some b) w)
  have SO := Lib.hid (Tryd.slices_Sorted_keys_disk b n D ptrElem w h1 hmax hby)
  clear h1 h2 h3 hp hs hl hsz hmax hby
  refine (callsIn_wide (n := 6)).1 ?_
  have hfK : Fence.wide.fn 45 := trivial
  have hfS : Fence.wide.fn 44 := trivial
  refine callsIn_of_wp Tryd.func24 rfl trivial ?_ rfl
  simp only [Tryd.ntmps24, List.size_toArray, List.length_cons, List.length_nil, Nat.reduceAdd, Nat.reduceSub, Array.replicate_succ, Array.replicate_zero, List.push_toArray, List.append_toArray, List.nil_append, List.cons_append]
  gi_wp2_with (first
    | (gi_at_call 45; refine K.out.mono ?_; rintro e w' ⟨rfl, rfl⟩)
    | (gi_at_call 44; refine SO.out.mono ?_; rintro e w' ⟨v, ss, rfl, hS, hrow, hnil, hb⟩))
  go_ret
  exact H.out v ss _ hS (ownsRow_base_a hrow (by simp)) (((Below.refl _ w).alloc (Nat.le_refl _) _).trans (hb.mono (by simp)))

section
variable {F : Nat → Prop} {w : World} {db : Nat} {S : DS}
set_option maxRecDepth 100000 in
set_option maxHeartbeats 400000 in
theorem list_any (h : DiskAt F w db S) (hsz : S.kept.length + S.acts.length ≤ 1000000) :
    Calls Tryd.prog 41 #[Pt db] w (NamesEnd w (listS S)) := by
  obtain ⟨hi, M, hM, hu⟩ := h
  obtain ⟨_, c1, _, _, _, _, _, c7⟩ := hM.facts
  have P := Lib.hid (names_any M.bf _ M.bl S.now w hM.now hi.now.sorted (hi.nowLe hsz))
  unfold listS
  cases hd : S.down with
  | true =>
    rw [hd] at c7
    clear hi hM hu c1 hsz
    go_enter Tryd.func41, Tryd.ntmps41
    go_wp2
    go_ret
    exact ⟨none, 0, rfl, At1.nil, Below.refl _ _, fun g off e => by cases e⟩
  | false =>
    rw [hd] at c7
    clear hi hM hu hsz
    go_enter Tryd.func41, Tryd.ntmps41
    go_wp2_with (first | (go_at_call 24; (with_reducible refine P.out.mono ?_); intro e w9 he; have HE := Lib.hid he; obtain ⟨a, c, rfl, hx⟩ := he; clear hx))
    go_ret
    exact HE.out
set_option maxRecDepth 100000 in
set_option maxHeartbeats 400000 in
theorem used_any (h : DiskAt F w db S) : Calls Tryd.prog 20 #[Pt db] w fun e w' => e = .returned (.int .i64 (usedT S : Nat)) ∧ w = w' := by
  obtain ⟨hi, M, hM, hu⟩ := h
  obtain ⟨_, _, _, _, c4, _, _, c7⟩ := hM.facts
  rw [hu] at c4
  unfold usedT
  cases hd : S.down
  all_goals
    rw [hd] at c7
    clear hi hM hu
    go_enter Tryd.func20, Tryd.ntmps20
    go_wp2
    go_ret
    exact ⟨rfl, rfl⟩
set_option maxRecDepth 100000 in
set_option maxHeartbeats 400000 in
theorem down_any (h : DiskAt F w db S) : Calls Tryd.prog 9 #[Pt db] w fun e w' => e = .returned (.bool S.down) ∧ w = w' := by
  obtain ⟨hi, M, hM, hu⟩ := h
  obtain ⟨_, _, _, _, _, _, _, c7⟩ := hM.facts
  clear hi hM hu
  cases hd : S.down
  all_goals
    rw [hd] at c7
    go_enter Tryd.func9, Tryd.ntmps9
    go_wp2
    go_ret
    exact ⟨rfl, rfl⟩
theorem arm_fin {M : Mem} (h : DiskIn F w db S M) (z : Int) (hz : z.toNat ≤ 9223372036854775807) (hn : 0 ≤ z) : Chg F w (w.setCell ⟨db, 6, none⟩ (.int .i64 z)) ∧ DiskIn F (w.setCell ⟨db, 6, none⟩ (.int .i64 z)) db (setArm S z) { M with armed := z.toNat } := by
  have kX : ∀ k, k ≠ db → (w.setCell ⟨db, 6, none⟩ (.int .i64 z)).heap[k]? = w.heap[k]? := fun k h2 => Below.heap_setCell _ _ _ _ h2
  have sz : (w.setCell ⟨db, 6, none⟩ (.int .i64 z)).heap.size = w.heap.size := by simp [World.setCell]
  refine ⟨Chg.refl.setCell (.inl h.inF.1) _, ?_, h.files.same (fun _ h => h) (fun k _ hb => kX k (h.db_file hb)), h.acts.same (fun _ h => h) (fun r hr => kX r (fun e => h.av_db (e ▸ hr))) (fun k _ hb => kX k (h.db_box hb)), h.now.same (kX _ (fun e => h.db_map h.now e.symm)), h.kept.same (kX _ (fun e => h.db_map h.kept e.symm)), h.two, fun _ => rfl, hz, h.inF, fun k hk => by rw [sz]; exact h.lt k hk⟩
  have := h.row.set 6 (.int .i64 z)
  rw [show z = ((z.toNat : Nat) : Int) from by omega] at this ⊢
  exact this
set_option maxRecDepth 100000 in
set_option maxHeartbeats 400000 in
theorem arm_any (n : Int) (hn : n ≤ 9223372036854775807) (h : DiskAt F w db S) : Calls Tryd.prog 11 #[Pt db, .int .i64 n] w fun e w' => e = .returned (.tuple #[]) ∧ Step F w w' F ∧ DiskAt F w' db (setArm S n) := by
  obtain ⟨hi, M, hM, hu⟩ := h
  have c6 := hM.facts.2.2.2.2.2.2.1
  have f6 := hM.row.free 6
  obtain ⟨z, hz⟩ : ∃ z, z = if n < 0 then 0 else n := ⟨_, rfl⟩
  have hz0 : 0 ≤ z := by rw [hz]; split <;> omega
  have hz1 : z.toNat = n.toNat := by rw [hz]; split <;> omega
  have hz2 : z.toNat ≤ 9223372036854775807 := by omega
  have FIN := Lib.hid (arm_fin hM z hz2 hz0)
  have E := Lib.hid (show setArm S z = setArm S n by unfold setArm; rw [hz1])
  have HI := Lib.hid (inv_setArm hi z)
  have HU := Lib.hid hu
  have HZ := Lib.hid hz
  clear hi hM hu hz hz0 hz1 hz2 hn
  go_enter Tryd.func11, Tryd.ntmps11
  go_wp2_with (first | (refine wl_max rfl _ _ _ rfl n 0 z rfl rfl HZ.out ?_))
  have D : DiskAt F (w.setCell ⟨db, 6, none⟩ (.int .i64 z)) db (setArm S z) := ⟨HI.out, _, FIN.out.2, HU.out⟩
  rw [E.out] at D
  first
    | exact bodyPost_end (results_none rfl _ _ _) rfl ⟨rfl, ⟨FIN.out.1, fun _ h => .inl h, fun _ h => h⟩, D⟩
    | exact bodyPost_ret (results_none rfl _ _ _) rfl ⟨rfl, ⟨FIN.out.1, fun _ h => .inl h, fun _ h => h⟩, D⟩
end
#print axioms list_any
end Go.Proofs.YtcnhifkpflaibaaDoor
