/-
  Merged: DiskNames, DiskMore.
-/
import Derived.Test.YtemphljkfpkgmaaDkTurnAll
import Derived.Test.YtemphljkfpkgmaaDiskShelf
import Derived.Laws.OwnMore
namespace Go.Proofs.Ytemphljkfpkgmaa
open Go.RowKit Go.Maps Go.Sort Go.Shelf

theorem sort_names {l : Dir} (hs : SortedD l) {ss : List Nm} (h : ss.Perm (names l)) : ss.mergeSort leB = names l := by
  have h1 := mergeSort_of_perm h
  have h2 : (names l).mergeSort leB = names l := List.mergeSort_of_pairwise ((names_sorted hs).imp fun {a b} hab => by
    simp only [leB, decide_eq_true_eq]; exact List.le_of_lt hab)
  exact h1.trans h2
/-- What is told of names: a new slice. -/
def NamesEnd (w : World) (L : List Nm) (e : Ending) (w' : World) : Prop := ∃ a c, e = .returned (.slice a L.length c) ∧ At1 St w' a L.length c L ∧ Below w.heap.size w w' ∧ ∀ g off, a = some ⟨g, off, none⟩ → w.heap.size ≤ g

set_option maxRecDepth 100000 in
set_option maxHeartbeats 1000000 in
theorem names_any (b n : Nat) (bl : List Nat) (l : Dir) (w : World) (hD : DirAt w b bl n (look l)) (hs : SortedD l) (hl : l.length ≤ 1000000) :
    Calls Try.prog 28 #[.map (some b)] w (NamesEnd w (names l)) := by
  obtain ⟨D, h1, h2, h3⟩ := hD
  have hp := DirAt.perm hs h1 h3
  have hsz : Maps.size D = l.length := by
    obtain ⟨es, he⟩ := h1.isMap
    have := hp.length_eq
    rw [he] at this ⊢
    simp only [names, List.length_map, strKeys] at this
    rw [this]; rfl
  have H := Lib.hid (show ∀ (v : Value) (ss : List Nm) (w' : World), ss.Perm (strKeys D) → w'.ownsRow w.heap.size 9 1 v ss.length ((ss.mergeSort (fun x y => decide (x ≤ y))).map encStr) → Below w.heap.size w w' → NamesEnd w (names l) (.returned v) w' from fun v ss w' hS hrow hb => by
    have e1 : ss.mergeSort (fun x y => decide (x ≤ y)) = names l := sort_names hs (hS.trans hp.symm)
    rw [e1] at hrow
    have e2 : ss.length = (names l).length := (hS.trans hp.symm).length_eq
    rw [e2] at hrow
    have ho : Own1 St 9 w' w.heap.size v (names l) := hrow
    obtain ⟨a, c, rfl, hat⟩ := ho.at1_
    exact ⟨a, c, rfl, hat, hb, fun g off e => (ho.lt g (by rw [e]; rfl)).1⟩)
  have hmax : Maps.size D ≤ maxLen := by unfold maxLen; omega
  have hby : Maps.size D * 16 ≤ 140737488355328 := by omega
  have K := Lib.hid (Try.maps_Keys_disk (some b) w)
  have SO := Lib.hid (Try.slices_Sorted_keys_disk b n D ptrElem w h1 hmax hby)
  clear h1 h2 h3 hp hs hl hsz hmax hby
  refine (callsIn_wide (n := 6)).1 ?_
  have hfK : Fence.wide.fn 51 := trivial
  have hfS : Fence.wide.fn 50 := trivial
  refine callsIn_of_wp Try.func28 rfl trivial ?_ rfl
  simp only [Try.ntmps28, List.size_toArray, List.length_cons, List.length_nil, Nat.reduceAdd, Nat.reduceSub, Array.replicate_succ, Array.replicate_zero, List.push_toArray, List.append_toArray, List.nil_append, List.cons_append]
  gi_wp2_with (first
    | (gi_at_call 51; refine K.out.mono ?_; rintro e w' ⟨rfl, rfl⟩)
    | (gi_at_call 50; refine SO.out.mono ?_; rintro e w' ⟨v, ss, rfl, hS, hrow, hnil, hb⟩))
  go_ret
  exact H.out v ss _ hS (ownsRow_base_a hrow (by simp)) (((Below.refl _ w).alloc (Nat.le_refl _) _).trans (hb.mono (by simp)))

section
variable {F : Nat → Prop} {w : World} {db : Nat} {S : DS}
set_option maxRecDepth 100000 in
set_option maxHeartbeats 400000 in
theorem list_any (h : DiskAt F w db S) (hsz : S.kept.length + S.acts.length ≤ 1000000) :
    Calls Try.prog 10 #[Pt db] w (NamesEnd w (listS S)) := by
  obtain ⟨hi, M, hM, hu⟩ := h
  obtain ⟨_, c1, _, _, _, _, _, c7⟩ := hM.facts
  have P := Lib.hid (names_any M.bf _ M.bl S.now w hM.now hi.now.sorted (hi.nowLe hsz))
  unfold listS
  cases hd : S.down with
  | true =>
    rw [hd] at c7
    clear hi hM hu c1 hsz
    go_enter Try.func10, Try.ntmps10
    go_wp2
    go_ret
    exact ⟨none, 0, rfl, At1.nil, Below.refl _ _, fun g off e => by cases e⟩
  | false =>
    rw [hd] at c7
    clear hi hM hu hsz
    go_enter Try.func10, Try.ntmps10
    go_wp2_with (first | (go_at_call 28; (with_reducible refine P.out.mono ?_); intro e w9 he; have HE := Lib.hid he; obtain ⟨a, c, rfl, hx⟩ := he; clear hx))
    go_ret
    exact HE.out
set_option maxRecDepth 100000 in
set_option maxHeartbeats 400000 in
theorem used_any (h : DiskAt F w db S) : Calls Try.prog 12 #[Pt db] w fun e w' => e = .returned (.int .i64 (usedT S : Nat)) ∧ w = w' := by
  obtain ⟨hi, M, hM, hu⟩ := h
  obtain ⟨_, _, _, _, c4, _, _, c7⟩ := hM.facts
  rw [hu] at c4
  unfold usedT
  cases hd : S.down
  all_goals
    rw [hd] at c7
    clear hi hM hu
    go_enter Try.func12, Try.ntmps12
    go_wp2
    go_ret
    exact ⟨rfl, rfl⟩
set_option maxRecDepth 100000 in
set_option maxHeartbeats 400000 in
theorem refused_any (h : DiskAt F w db S) : Calls Try.prog 14 #[Pt db] w fun e w' => e = .returned (.int .i64 (S.refused : Nat)) ∧ w = w' := by
  obtain ⟨hi, M, hM, hu⟩ := h
  obtain ⟨_, _, _, _, _, c5, _, _⟩ := hM.facts
  clear hi hM hu
  go_enter Try.func14, Try.ntmps14
  go_wp2
  go_ret
  exact ⟨rfl, rfl⟩
set_option maxRecDepth 100000 in
set_option maxHeartbeats 400000 in
theorem down_any (h : DiskAt F w db S) : Calls Try.prog 13 #[Pt db] w fun e w' => e = .returned (.bool S.down) ∧ w = w' := by
  obtain ⟨hi, M, hM, hu⟩ := h
  obtain ⟨_, _, _, _, _, _, _, c7⟩ := hM.facts
  clear hi hM hu
  cases hd : S.down
  all_goals
    rw [hd] at c7
    go_enter Try.func13, Try.ntmps13
    go_wp2
    go_ret
    exact ⟨rfl, rfl⟩
theorem arm_fin {M : Mem} (h : DiskIn F w db S M) (z : Int) (hz : z.toNat ≤ 9223372036854775807) (hn : 0 ≤ z) : Chg F w (w.setCell ⟨db, 6, none⟩ (.int .i64 z)) ∧ DiskIn F (w.setCell ⟨db, 6, none⟩ (.int .i64 z)) db (setArm S z) { M with armed := z.toNat } := by
  have kX : ∀ k, k ≠ db → (w.setCell ⟨db, 6, none⟩ (.int .i64 z)).heap[k]? = w.heap[k]? := fun k h2 => Below.heap_setCell _ _ _ _ h2
  have sz : (w.setCell ⟨db, 6, none⟩ (.int .i64 z)).heap.size = w.heap.size := by simp [World.setCell]
  refine ⟨Chg.refl.setCell (.inl h.inF.1) _, ?_, h.files.same (fun _ h => h) (fun k _ hb => kX k (h.db_file hb)), h.acts.same (fun _ h => h) (fun r hr => kX r (fun e => h.av_db (e ▸ hr))) (fun k _ hb => kX k (h.db_box hb)), h.now.same (kX _ (fun e => h.db_map h.now e.symm)), h.kept.same (kX _ (fun e => h.db_map h.kept e.symm)), h.two, fun _ => rfl, hz, h.inF, fun k hk => by rw [sz]; exact h.lt k hk⟩
  have := h.row.set 6 (.int .i64 z)
  rw [show z = ((z.toNat : Nat) : Int) from by omega] at this ⊢
  exact this
set_option maxRecDepth 100000 in
set_option maxHeartbeats 400000 in
theorem arm_any (n : Int) (hn : n ≤ 9223372036854775807) (h : DiskAt F w db S) : Calls Try.prog 25 #[Pt db, .int .i64 n] w fun e w' => e = .returned (.tuple #[]) ∧ Step F w w' F ∧ DiskAt F w' db (setArm S n) := by
  obtain ⟨hi, M, hM, hu⟩ := h
  have c6 := hM.facts.2.2.2.2.2.2.1
  have f6 := hM.row.free 6
  obtain ⟨z, hz⟩ : ∃ z, z = if n < 0 then 0 else n := ⟨_, rfl⟩
  have hz0 : 0 ≤ z := by rw [hz]; split <;> omega
  have hz1 : z.toNat = n.toNat := by rw [hz]; split <;> omega
  have hz2 : z.toNat ≤ 9223372036854775807 := by omega
  have FIN := Lib.hid (arm_fin hM z hz2 hz0)
  have E := Lib.hid (show setArm S z = setArm S n by unfold setArm; rw [hz1])
  have HI := Lib.hid (inv_setArm hi z)
  have HU := Lib.hid hu
  have HZ := Lib.hid hz
  clear hi hM hu hz hz0 hz1 hz2 hn
  go_enter Try.func25, Try.ntmps25
  go_wp2_with (first | (refine wl_max rfl _ _ _ rfl n 0 z rfl rfl HZ.out ?_))
  have D : DiskAt F (w.setCell ⟨db, 6, none⟩ (.int .i64 z)) db (setArm S z) := ⟨HI.out, _, FIN.out.2, HU.out⟩
  rw [E.out] at D
  first
    | exact bodyPost_end (results_none rfl _ _ _) rfl ⟨rfl, ⟨FIN.out.1, fun _ h => .inl h, fun _ h => h⟩, D⟩
    | exact bodyPost_ret (results_none rfl _ _ _) rfl ⟨rfl, ⟨FIN.out.1, fun _ h => .inl h, fun _ h => h⟩, D⟩
end
#print axioms list_any
end Go.Proofs.Ytemphljkfpkgmaa

namespace Go.Proofs.Ytemphljkfpkgmaa
open Go.RowKit Go.Maps

theorem own_empty (w : World) : Own (w.alloc (.cells #[] 5)) w.heap.size (.slice (some ⟨w.heap.size, 0, none⟩) 0 0) [] :=
  World.ownsRow_lit w #[] 0 (Nat.le_refl _) (Nat.zero_le _) rfl
set_option maxRecDepth 100000 in
set_option maxHeartbeats 400000 in
theorem clone_any (a : Option Addr) (n c : Nat) (l : List UInt8) (w : World) (hb : Bytes w a n c l) (hl : n ≤ 2000000000) :
    Calls Try.prog 46 #[.slice a n c] w (Made w l) := by
  have HB := Lib.hid hb
  have HB1 := Lib.hid (Bytes.below hb ((Below.refl _ w).alloc (Nat.le_refl _) (.cells #[] 5)))
  have HO := Lib.hid (own_empty w)
  have H48 := Lib.hid (show ([] : List UInt8).length + n ≤ 140737488355328 by simp; omega)
  have HBE := Lib.hid (show w.heap.size ≤ (w.alloc (.cells #[] 5)).heap.size by simp)
  have HW := Lib.hid ((Below.refl _ w).alloc (Nat.le_refl _) (.cells #[] 5))
  have q := fun W a n c n' c' => Lib.run_eql_slice_nil (P := Try.prog) W _ _ a n c n' c' Try.underlying35
  clear hb hl
  cases a with
  | none =>
    have hn : n = 0 := by
      rcases HB.out.2.2.2 with ⟨h, _⟩ | ⟨b, off, h, _⟩
      · exact h
      · cases h
    have hl0 : l = [] := List.length_eq_zero_iff.1 (by rw [HB.out.1, hn])
    subst hl0
    go_enter Try.func46, Try.ntmps46
    go_wp2
    go_ret
    exact Made.of (Own.nil _ _) (Below.refl _ _)
  | some ad =>
    go_enter Try.func46, Try.ntmps46
    go_wp2_with (first
      | (at_builtin; refine app_bytes rfl _ _ rfl w.heap.size _ [] rfl HO.out (some ad) n c l rfl HB1.out H48.out HBE.out ?_; intro v' w' ho hg; have HO2 := Lib.hid ho; have HG := Lib.hid hg; clear ho hg))
    go_ret
    exact Made.of HO2.out (HW.out.grown HG.out HBE.out (fun k hk => by cases hk; exact Nat.le_refl _))

section
variable {F : Nat → Prop} {w : World} {db : Nat} {S : DS}
/-- What Read tells. -/
def ReadEnd (w : World) (r : List UInt8 × Nat) (e : Ending) (w' : World) : Prop := ∃ a n c, e = .returned (.tuple #[.slice a n c, .int .i64 (r.2 : Int)]) ∧ Own w' w.heap.size (.slice a n c) r.1 ∧ Below w.heap.size w w'
theorem readE {S : DS} {s : Nm} {z : Nat} (hz : findE S [s] = z) (h0 : z ≠ 0) : readS S s = ([], z) := by
  unfold findE at hz
  unfold readS
  rw [ready_eq]
  simp only [List.all_cons, List.all_nil, Bool.and_true] at hz
  cases hd : S.down <;> rw [hd] at hz
  · cases hm : mayN s <;> rw [hm] at hz
    · simp at hz; subst hz; rfl
    · simp only [Bool.false_eq_true, if_false, if_true, List.getD_cons_zero] at hz
      cases hk : look S.now s with
      | none => rw [hk] at hz; simp at hz; subst hz; rfl
      | some k => rw [hk] at hz; simp at hz; omega
  · simp at hz; subst hz; rfl
theorem readO {S : DS} {s : Nm} {k : Nat} (h0 : S.down = false) (hm : mayN s = true) (hk : look S.now s = some k) : readS S s = ((S.files.getD k ([], 0)).1, 0) := by
  unfold readS
  rw [ready_eq, h0, hm, hk]
  rfl
set_option maxRecDepth 100000 in
set_option maxHeartbeats 1000000 in
theorem read_any (s : ByteArray) (h : DiskAt F w db S) : Calls Try.prog 23 #[Pt db, .string s] w (ReadEnd w (readS S s.data.toList)) := by
  obtain ⟨hi, M, hM, hu⟩ := h
  have hc : Chg (fun _ => False) w (w.alloc (.cells #[.string s] 9)) := Chg.refl.alloc _
  have HC := Lib.hid hc
  have P := Lib.hid (find_disk (hM.later hc) _ 1 1 _ (one_str _ s) (by omega) (by omega))
  by_cases hz : findE S [s.data.toList] = 0
  · obtain ⟨hd, hm0, k, hk, ho⟩ := find_yesL hz
    have hm : mayN s.data.toList = true := by simp at hm0; exact hm0
    have hk : look S.now s.data.toList = some k := hk
    rw [ho, hz] at P
    simp only [ptrOf] at P
    have hlt := hi.nids _ (look_mem hk)
    obtain ⟨fa, fn, fc, hv, hb⟩ := (hM.files.own k hlt).bytes
    have hr := hM.files.row k hlt
    rw [hv] at hr
    have CB := Lib.hid (fun q => (hr.same (w' := (w.alloc (.cells #[.string s] 9)).drewN q) (Below.heap_alloc _ _ _ hr.lt)).cell 0 rfl)
    have hn : fn ≤ 2000000000 := by have := hb.1; have := file_syn hi k; have := hi.most; omega
    have CL := Lib.hid (fun q => clone_any fa fn fc _ ((w.alloc (.cells #[.string s] 9)).drewN q) (hb.below ((hc.drewN q).below (fun k hk => hk.elim) (Nat.le_refl _))) hn)
    have E := Lib.hid (readO hd hm hk)
    generalize M.bl.getD k 0 = x at *
    clear hz hd hm hm0 ho hi hM hu hk hlt hv hb hr hn M
    go_enter Try.func23, Try.ntmps23
    go_wp2_with (first
      | (go_at_call 29; (with_reducible refine P.out.mono ?_); rintro e w5 ⟨rfl, q, rfl⟩; have cb := CB.out q)
      | (go_at_call 46; (with_reducible refine (CL.out _).mono ?_); rintro e w6 ⟨a', n', c', rfl, ho, hb⟩; have HO := Lib.hid ho; have HB := Lib.hid hb; clear ho hb))
    go_ret2
    rw [E.out]
    exact ⟨a', n', c', rfl, HO.out.mono (by simp), ((HC.out.drewN q).below (fun k hk => hk.elim) (Nat.le_refl _)).trans (HB.out.mono (by simp))⟩
  · have E := Lib.hid (readE rfl hz)
    have k0 : (((findE S [s.data.toList] : Nat) : Int) != 0) = true := by simp; omega
    obtain ⟨p, hp⟩ := ptrOf_pt M.bl (findO S [s.data.toList])
    rw [hp] at P
    generalize findE S [s.data.toList] = z at P k0 E
    clear hi hM hu hz hp M
    go_enter Try.func23, Try.ntmps23
    go_wp2_with (first | (go_at_call 29; (with_reducible refine P.out.mono ?_); rintro e w5 ⟨rfl, q, rfl⟩))
    go_ret2
    rw [E.out]
    exact ⟨none, 0, 0, rfl, Own.nil _ _, (HC.out.drewN q).below (fun k hk => hk.elim) (Nat.le_refl _)⟩
end

/-! ### New -/
set_option maxRecDepth 100000 in
set_option maxHeartbeats 400000 in
theorem new_no (q : Int) (w : World) (hq : q < 0 ∨ 1073741824 < q) : Calls Try.prog 5 #[.int .i64 q] w fun e w' => e = .returned (.pointer none) ∧ w = w' := by
  rcases hq with hq | hq
  · go_enter Try.func5, Try.ntmps5
    go_wp2
    go_ret
    exact ⟨rfl, rfl⟩
  · have hq2 : ¬ q < 0 := by omega
    go_enter Try.func5, Try.ntmps5
    go_wp2
    go_ret
    exact ⟨rfl, rfl⟩
/-- A disk is made. -/
def NewEnd (w : World) (q : Nat) (e : Ending) (w' : World) : Prop := ∃ db F, e = .returned (Pt db) ∧ DiskAt F w' db (newS q) ∧ (∀ k, F k → w.heap.size ≤ k) ∧ Below w.heap.size w w'
theorem new_fin (w : World) (q : Nat) (hq : q ≤ 1073741824) : DiskAt (fun k => w.heap.size ≤ k ∧ k < w.heap.size + 3) (((w.alloc (.map #[] 0)).alloc (.map #[] 0)).alloc (.cells #[.int .i64 (q : Int), .map (some w.heap.size), .map (some (w.heap.size + 1)), .slice none 0 0, .int .i64 0, .int .i64 0, .int .i64 0, .bool false] 50)) (w.heap.size + 2) (newS q) := by
  have s1 : ∀ (w : World) (o : Obj), (w.alloc o).heap.size = w.heap.size + 1 := fun w o => by simp
  have d1 := dir_made w []
  have d2 := dir_made (w.alloc (.map #[] 0)) []
  rw [s1] at d2
  have e : RowAt (((w.alloc (.map #[] 0)).alloc (.map #[] 0)).alloc (.cells #[.int .i64 (q : Int), .map (some w.heap.size), .map (some (w.heap.size + 1)), .slice none 0 0, .int .i64 0, .int .i64 0, .int .i64 0, .bool false] 50)) ((w.alloc (.map #[] 0)).alloc (.map #[] 0)).heap.size 50 [.int .i64 (q : Int), .map (some w.heap.size), .map (some (w.heap.size + 1)), .slice none 0 0, .int .i64 0, .int .i64 0, .int .i64 0, .bool false] := heap_alloc_new _ _
  rw [s1, s1] at e
  have up : ∀ {w : World} {b : Nat} {g} (o : Obj), DirAt w b [] 0 g → DirAt (w.alloc o) b [] 0 g := fun o h => h.same (Below.heap_alloc _ _ _ h.lt)
  refine ⟨inv_new hq, ⟨w.heap.size, w.heap.size + 1, .slice none 0 0, [], [], [], 0, 0⟩, ⟨e, ⟨rfl, rfl, fun k hk => by simp [newS] at hk, fun k hk => by simp [newS] at hk, List.nodup_nil, fun i j hi => by simp [newS] at hi, fun k hk => by simp [newS] at hk⟩, ActsIn.none_, (up _ (up _ d1)).of_eq (fun _ => rfl), (up _ d2).of_eq (fun _ => rfl), by simp, fun _ => rfl, by simp, ⟨⟨by omega, by omega⟩, ⟨by show w.heap.size ≤ w.heap.size; omega, by show w.heap.size < _; omega⟩, ⟨by show w.heap.size ≤ w.heap.size + 1; omega, by show w.heap.size + 1 < _; omega⟩⟩, fun k hk => by rw [s1, s1, s1]; omega⟩, rfl⟩
set_option maxRecDepth 100000 in
set_option maxHeartbeats 400000 in
theorem new_any (q : Nat) (w : World) (hq : q ≤ 1073741824) : Calls Try.prog 5 #[.int .i64 (q : Int)] w (NewEnd w q) := by
  have H := Lib.hid (new_fin w q hq)
  have h1 : ¬ (q : Int) < 0 := by omega
  have h2 : ¬ 1073741824 < (q : Int) := by omega
  have hmm := @run_makeMap Try.prog
  clear hq
  go_enter Try.func5, Try.ntmps5
  go_wp2
  go_ret
  exact ⟨_, _, rfl, H.out, fun k hk => hk.1, (((Below.refl _ w).alloc (Nat.le_refl _) _).alloc (by simp) _).alloc (by simp; omega) _⟩

set_option maxRecDepth 100000 in
set_option maxHeartbeats 400000 in
theorem nil_append (s : ByteArray) (a : Option Addr) (n c : Nat) (w : World) : Calls Try.prog 16 #[.pointer none, .string s, .slice a n c] w fun e w' => e = .returned (.int .i64 1) ∧ Below w.heap.size w w' := by
  have P := Lib.hid (fun v W => find_nil v W)
  go_enter Try.func16, Try.ntmps16
  go_wp2_with (first | (go_at_call 29; (with_reducible refine (P.out _ _).mono ?_); rintro e w5 ⟨rfl, rfl⟩))
  go_ret
  exact ⟨rfl, (((((Below.refl _ w).alloc (by simp) _).alloc (by simp) _).alloc (by simp; omega) _).alloc (by simp; omega) _).alloc (by simp; omega) _⟩

set_option maxRecDepth 100000 in
set_option maxHeartbeats 400000 in
theorem nil_sync (s : ByteArray) (w : World) : Calls Try.prog 18 #[.pointer none, .string s] w fun e w' => e = .returned (.int .i64 1) ∧ Below w.heap.size w w' := by
  have P := Lib.hid (fun v W => find_nil v W)
  go_enter Try.func18, Try.ntmps18
  go_wp2_with (first | (go_at_call 29; (with_reducible refine (P.out _ _).mono ?_); rintro e w5 ⟨rfl, rfl⟩))
  go_ret
  exact ⟨rfl, (((Below.refl _ w).alloc (by simp) _).alloc (by simp) _).alloc (by simp; omega) _⟩

set_option maxRecDepth 100000 in
set_option maxHeartbeats 400000 in
theorem nil_remove (s : ByteArray) (w : World) : Calls Try.prog 22 #[.pointer none, .string s] w fun e w' => e = .returned (.int .i64 1) ∧ Below w.heap.size w w' := by
  have P := Lib.hid (fun v W => find_nil v W)
  go_enter Try.func22, Try.ntmps22
  go_wp2_with (first | (go_at_call 29; (with_reducible refine (P.out _ _).mono ?_); rintro e w5 ⟨rfl, rfl⟩))
  go_ret
  exact ⟨rfl, (((Below.refl _ w).alloc (by simp) _).alloc (by simp) _).alloc (by simp; omega) _⟩

set_option maxRecDepth 100000 in
set_option maxHeartbeats 400000 in
theorem nil_rename (s t : ByteArray) (w : World) : Calls Try.prog 20 #[.pointer none, .string s, .string t] w fun e w' => e = .returned (.int .i64 1) ∧ Below w.heap.size w w' := by
  have P := Lib.hid (fun v W => find_nil v W)
  go_enter Try.func20, Try.ntmps20
  go_wp2_with (first | (go_at_call 29; (with_reducible refine (P.out _ _).mono ?_); rintro e w5 ⟨rfl, rfl⟩))
  go_ret
  exact ⟨rfl, ((((Below.refl _ w).alloc (by simp) _).alloc (by simp) _).alloc (by simp; omega) _).alloc (by simp; omega) _⟩

set_option maxRecDepth 100000 in
set_option maxHeartbeats 400000 in
theorem nil_read (s : ByteArray) (w : World) : Calls Try.prog 23 #[.pointer none, .string s] w fun e w' => e = .returned (.tuple #[.slice none 0 0, .int .i64 1]) ∧ Below w.heap.size w w' := by
  have P := Lib.hid (fun v W => find_nil v W)
  go_enter Try.func23, Try.ntmps23
  go_wp2_with (first | (go_at_call 29; (with_reducible refine (P.out _ _).mono ?_); rintro e w5 ⟨rfl, rfl⟩))
  go_ret2
  exact ⟨rfl, (Below.refl _ w).alloc (by simp) _⟩

set_option maxRecDepth 100000 in
set_option maxHeartbeats 400000 in
theorem nil_list (w : World) : Calls Try.prog 10 #[.pointer none] w fun e w' => e = .returned (.slice none 0 0) ∧ w = w' := by
  go_enter Try.func10, Try.ntmps10
  go_wp2
  go_ret
  exact ⟨rfl, rfl⟩

set_option maxRecDepth 100000 in
set_option maxHeartbeats 400000 in
theorem nil_used (w : World) : Calls Try.prog 12 #[.pointer none] w fun e w' => e = .returned (.int .i64 0) ∧ w = w' := by
  go_enter Try.func12, Try.ntmps12
  go_wp2
  go_ret
  exact ⟨rfl, rfl⟩

set_option maxRecDepth 100000 in
set_option maxHeartbeats 400000 in
theorem nil_refused (w : World) : Calls Try.prog 14 #[.pointer none] w fun e w' => e = .returned (.int .i64 0) ∧ w = w' := by
  go_enter Try.func14, Try.ntmps14
  go_wp2
  go_ret
  exact ⟨rfl, rfl⟩

set_option maxRecDepth 100000 in
set_option maxHeartbeats 400000 in
theorem nil_down (w : World) : Calls Try.prog 13 #[.pointer none] w fun e w' => e = .returned (.bool false) ∧ w = w' := by
  go_enter Try.func13, Try.ntmps13
  go_wp2
  go_ret
  exact ⟨rfl, rfl⟩

set_option maxRecDepth 100000 in
set_option maxHeartbeats 400000 in
theorem nil_arm (n : Int) (w : World) : Calls Try.prog 25 #[.pointer none, .int .i64 n] w fun e w' => e = .returned (.tuple #[]) ∧ w = w' := by
  go_enter Try.func25, Try.ntmps25
  go_wp2
  first
    | exact bodyPost_end (results_none rfl _ _ _) rfl ⟨rfl, rfl⟩
    | exact bodyPost_ret (results_none rfl _ _ _) rfl ⟨rfl, rfl⟩
set_option maxRecDepth 100000 in
set_option maxHeartbeats 400000 in
theorem nil_crash (a : Option Addr) (n c : Nat) (w : World) : Calls Try.prog 26 #[.pointer none, .slice a n c] w fun e w' => e = .returned (.tuple #[]) ∧ Below w.heap.size w w' := by
  go_enter Try.func26, Try.ntmps26
  go_wp2
  first
    | exact bodyPost_end (results_none rfl _ _ _) rfl ⟨rfl, (Below.refl _ w).alloc (Nat.le_refl _) _⟩
    | exact bodyPost_ret (results_none rfl _ _ _) rfl ⟨rfl, (Below.refl _ w).alloc (Nat.le_refl _) _⟩
#print axioms nil_append
end Go.Proofs.Ytemphljkfpkgmaa
