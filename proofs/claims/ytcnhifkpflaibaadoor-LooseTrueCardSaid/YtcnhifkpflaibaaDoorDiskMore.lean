/-
  The walks of New, of Read; of all calls at a disk that is not there.
-/
import Derived.Test.YtcnhifkpflaibaaDoorDiskNames
namespace Go.Proofs.YtcnhifkpflaibaaDoor
open Go.RowKit Go.Maps

theorem own_empty (w : World) : Own (w.alloc (.cells #[] 5)) w.heap.size (.slice (some ⟨w.heap.size, 0, none⟩) 0 0) [] :=
  World.ownsRow_lit w #[] 0 (Nat.le_refl _) (Nat.zero_le _) rfl
set_option maxRecDepth 100000 in
set_option maxHeartbeats 400000 in
theorem clone_any (a : Option Addr) (n c : Nat) (l : List UInt8) (w : World) (hb : Bytes w a n c l) (hl : n ≤ 2000000000) :
    Calls Tryd.prog 53 #[.slice a n c] w (Made w l) := by
  have HB := Lib.hid hb
  have HB1 := Lib.hid (Bytes.below hb ((Below.refl _ w).alloc (Nat.le_refl _) (.cells #[] 5)))
  have HO := Lib.hid (own_empty w)
  have H48 := Lib.hid (show ([] : List UInt8).length + n ≤ 140737488355328 by simp; omega)
  have HBE := Lib.hid (show w.heap.size ≤ (w.alloc (.cells #[] 5)).heap.size by simp)
  have HW := Lib.hid ((Below.refl _ w).alloc (Nat.le_refl _) (.cells #[] 5))
  have q := fun W a n c n' c' => Lib.run_eql_slice_nil (P := Tryd.prog) W _ _ a n c n' c' Tryd.underlying23
  clear hb hl
  cases a with
  | none =>
    have hn : n = 0 := by
      rcases HB.out.2.2.2 with ⟨h, _⟩ | ⟨b, off, h, _⟩
      · exact h
      · cases h
    have hl0 : l = [] := List.length_eq_zero_iff.1 (by rw [HB.out.1, hn])
    subst hl0
    go_enter Tryd.func53, Tryd.ntmps53
    go_wp2
    go_ret
    exact Made.of (Own.nil _ _) (Below.refl _ _)
  | some ad =>
    go_enter Tryd.func53, Tryd.ntmps53
    go_wp2_with (first
      | (at_builtin; refine app_bytes rfl _ _ rfl w.heap.size _ [] rfl HO.out (some ad) n c l rfl HB1.out H48.out HBE.out ?_; intro v' w' ho hg; have HO2 := Lib.hid ho; have HG := Lib.hid hg; clear ho hg))
    go_ret
    exact Made.of HO2.out (HW.out.grown HG.out HBE.out (fun k hk => by cases hk; exact Nat.le_refl _))

section
variable {F : Nat → Prop} {w : World} {db : Nat} {S : DS}
/-- What Read tells. -/
def ReadEnd (w : World) (r : List UInt8 × Nat) (e : Ending) (w' : World) : Prop := ∃ a n c, e = .returned (.tuple #[.slice a n c, .int .i64 (r.2 : Int)]) ∧ Own w' w.heap.size (.slice a n c) r.1 ∧ Below w.heap.size w w'
theorem readE {S : DS} {s : Nm} {z : Nat} (hz : findE S [s] = z) (h0 : z ≠ 0) : readS S s = ([], z) := by
  unfold findE at hz
  unfold readS
  rw [ready_eq]
  simp only [List.all_cons, List.all_nil, Bool.and_true] at hz
  cases hd : S.down <;> rw [hd] at hz
  · cases hm : mayN s <;> rw [hm] at hz
    · simp at hz; subst hz; rfl
    · simp only [Bool.false_eq_true, if_false, if_true, List.getD_cons_zero] at hz
      cases hk : look S.now s with
      | none => rw [hk] at hz; simp at hz; subst hz; rfl
      | some k => rw [hk] at hz; simp at hz; omega
  · simp at hz; subst hz; rfl
theorem readO {S : DS} {s : Nm} {k : Nat} (h0 : S.down = false) (hm : mayN s = true) (hk : look S.now s = some k) : readS S s = ((S.files.getD k ([], 0)).1, 0) := by
  unfold readS
  rw [ready_eq, h0, hm, hk]
  rfl
set_option maxRecDepth 100000 in
set_option maxHeartbeats 1000000 in
theorem read_any (s : ByteArray) (h : DiskAt F w db S) : Calls Tryd.prog 30 #[Pt db, .string s] w (ReadEnd w (readS S s.data.toList)) := by
  obtain ⟨hi, M, hM, hu⟩ := h
  have hc : Chg (fun _ => False) w (w.alloc (.cells #[.string s] 9)) := Chg.refl.alloc _
  have HC := Lib.hid hc
  have P := Lib.hid (find_disk (hM.later hc) _ 1 1 _ (one_str _ s) (by omega) (by omega))
  by_cases hz : findE S [s.data.toList] = 0
  · obtain ⟨hd, hm0, k, hk, ho⟩ := find_yesL hz
    have hm : mayN s.data.toList = true := by simp at hm0; exact hm0
    have hk : look S.now s.data.toList = some k := hk
    rw [ho, hz] at P
    simp only [ptrOf] at P
    have hlt := hi.nids _ (look_mem hk)
    obtain ⟨fa, fn, fc, hv, hb⟩ := (hM.files.own k hlt).bytes
    have hr := hM.files.row k hlt
    rw [hv] at hr
    have CB := Lib.hid (fun q => (hr.same (w' := (w.alloc (.cells #[.string s] 9)).drewN q) (Below.heap_alloc _ _ _ hr.lt)).cell 0 rfl)
    have hn : fn ≤ 2000000000 := by have := hb.1; have := file_syn hi k; have := hi.most; omega
    have CL := Lib.hid (fun q => clone_any fa fn fc _ ((w.alloc (.cells #[.string s] 9)).drewN q) (hb.below ((hc.drewN q).below (fun k hk => hk.elim) (Nat.le_refl _))) hn)
    have E := Lib.hid (readO hd hm hk)
    generalize M.bl.getD k 0 = x at *
    clear hz hd hm hm0 ho hi hM hu hk hlt hv hb hr hn M
    go_enter Tryd.func30, Tryd.ntmps30
    go_wp2_with (first
      | (go_at_call 33; (with_reducible refine P.out.mono ?_); rintro e w5 ⟨rfl, q, rfl⟩; have cb := CB.out q)
      | (go_at_call 53; (with_reducible refine (CL.out _).mono ?_); rintro e w6 ⟨a', n', c', rfl, ho, hb⟩; have HO := Lib.hid ho; have HB := Lib.hid hb; clear ho hb))
    go_ret2
    rw [E.out]
    exact ⟨a', n', c', rfl, HO.out.mono (by simp), ((HC.out.drewN q).below (fun k hk => hk.elim) (Nat.le_refl _)).trans (HB.out.mono (by simp))⟩
  · have E := Lib.hid (readE rfl hz)
    have k0 : (((findE S [s.data.toList] : Nat) : Int) != 0) = true := by simp; omega
    obtain ⟨p, hp⟩ := ptrOf_pt M.bl (findO S [s.data.toList])
    rw [hp] at P
    generalize findE S [s.data.toList] = z at P k0 E
    clear hi hM hu hz hp M
    go_enter Tryd.func30, Tryd.ntmps30
    go_wp2_with (first | (go_at_call 33; (with_reducible refine P.out.mono ?_); rintro e w5 ⟨rfl, q, rfl⟩))
    go_ret2
    rw [E.out]
    exact ⟨none, 0, 0, rfl, Own.nil _ _, (HC.out.drewN q).below (fun k hk => hk.elim) (Nat.le_refl _)⟩
end

/-! ### New -/
set_option maxRecDepth 100000 in
set_option maxHeartbeats 400000 in
theorem new_no (q : Int) (w : World) (hq : q < 0 ∨ 1073741824 < q) : Calls Tryd.prog 7 #[.int .i64 q] w fun e w' => e = .returned (.pointer none) ∧ w = w' := by
  rcases hq with hq | hq
  · go_enter Tryd.func7, Tryd.ntmps7
    go_wp2
    go_ret
    exact ⟨rfl, rfl⟩
  · have hq2 : ¬ q < 0 := by omega
    go_enter Tryd.func7, Tryd.ntmps7
    go_wp2
    go_ret
    exact ⟨rfl, rfl⟩
/-- A disk is made. -/
def NewEnd (w : World) (q : Nat) (e : Ending) (w' : World) : Prop := ∃ db F, e = .returned (Pt db) ∧ DiskAt F w' db (newS q) ∧ (∀ k, F k → w.heap.size ≤ k) ∧ Below w.heap.size w w'
theorem new_fin (w : World) (q : Nat) (hq : q ≤ 1073741824) : DiskAt (fun k => w.heap.size ≤ k ∧ k < w.heap.size + 3) (((w.alloc (.map #[] 0)).alloc (.map #[] 0)).alloc (.cells #[.int .i64 (q : Int), .map (some w.heap.size), .map (some (w.heap.size + 1)), .slice none 0 0, .int .i64 0, .int .i64 0, .int .i64 0, .bool false] 55)) (w.heap.size + 2) (newS q) := by
  have s1 : ∀ (w : World) (o : Obj), (w.alloc o).heap.size = w.heap.size + 1 := fun w o => by simp
  have d1 := dir_made w []
  have d2 := dir_made (w.alloc (.map #[] 0)) []
  rw [s1] at d2
  have e : RowAt (((w.alloc (.map #[] 0)).alloc (.map #[] 0)).alloc (.cells #[.int .i64 (q : Int), .map (some w.heap.size), .map (some (w.heap.size + 1)), .slice none 0 0, .int .i64 0, .int .i64 0, .int .i64 0, .bool false] 55)) ((w.alloc (.map #[] 0)).alloc (.map #[] 0)).heap.size 55 [.int .i64 (q : Int), .map (some w.heap.size), .map (some (w.heap.size + 1)), .slice none 0 0, .int .i64 0, .int .i64 0, .int .i64 0, .bool false] := heap_alloc_new _ _
  rw [s1, s1] at e
  have up : ∀ {w : World} {b : Nat} {g} (o : Obj), DirAt w b [] 0 g → DirAt (w.alloc o) b [] 0 g := fun o h => h.same (Below.heap_alloc _ _ _ h.lt)
  refine ⟨inv_new hq, ⟨w.heap.size, w.heap.size + 1, .slice none 0 0, [], [], [], 0, 0⟩, ⟨e, ⟨rfl, rfl, fun k hk => by simp [newS] at hk, fun k hk => by simp [newS] at hk, List.nodup_nil, fun i j hi => by simp [newS] at hi, fun k hk => by simp [newS] at hk⟩, ActsIn.none_, (up _ (up _ d1)).of_eq (fun _ => rfl), (up _ d2).of_eq (fun _ => rfl), by simp, fun _ => rfl, by simp, ⟨⟨by omega, by omega⟩, ⟨by show w.heap.size ≤ w.heap.size; omega, by show w.heap.size < _; omega⟩, ⟨by show w.heap.size ≤ w.heap.size + 1; omega, by show w.heap.size + 1 < _; omega⟩⟩, fun k hk => by rw [s1, s1, s1]; omega⟩, rfl⟩
set_option maxRecDepth 100000 in
set_option maxHeartbeats 400000 in
theorem new_any (q : Nat) (w : World) (hq : q ≤ 1073741824) : Calls Tryd.prog 7 #[.int .i64 (q : Int)] w (NewEnd w q) := by
  have H := Lib.hid (new_fin w q hq)
  have h1 : ¬ (q : Int) < 0 := by omega
  have h2 : ¬ 1073741824 < (q : Int) := by omega
  have hmm := @run_makeMap Tryd.prog
  clear hq
  go_enter Tryd.func7, Tryd.ntmps7
  go_wp2
  go_ret
  exact ⟨_, _, rfl, H.out, fun k hk => hk.1, (((Below.refl _ w).alloc (Nat.le_refl _) _).alloc (by simp) _).alloc (by simp; omega) _⟩

set_option maxRecDepth 100000 in
set_option maxHeartbeats 400000 in
theorem nil_append (s : ByteArray) (a : Option Addr) (n c : Nat) (w : World) : Calls Tryd.prog 16 #[.pointer none, .string s, .slice a n c] w fun e w' => e = .returned (.int .i64 1) ∧ Below w.heap.size w w' := by
  have P := Lib.hid (fun v W => find_nil v W)
  go_enter Tryd.func16, Tryd.ntmps16
  go_wp2_with (first | (go_at_call 33; (with_reducible refine (P.out _ _).mono ?_); rintro e w5 ⟨rfl, rfl⟩))
  go_ret
  exact ⟨rfl, (((((Below.refl _ w).alloc (by simp) _).alloc (by simp) _).alloc (by simp; omega) _).alloc (by simp; omega) _).alloc (by simp; omega) _⟩

set_option maxRecDepth 100000 in
set_option maxHeartbeats 400000 in
theorem nil_sync (s : ByteArray) (w : World) : Calls Tryd.prog 49 #[.pointer none, .string s] w fun e w' => e = .returned (.int .i64 1) ∧ Below w.heap.size w w' := by
  have P := Lib.hid (fun v W => find_nil v W)
  go_enter Tryd.func49, Tryd.ntmps49
  go_wp2_with (first | (go_at_call 33; (with_reducible refine (P.out _ _).mono ?_); rintro e w5 ⟨rfl, rfl⟩))
  go_ret
  exact ⟨rfl, (((Below.refl _ w).alloc (by simp) _).alloc (by simp) _).alloc (by simp; omega) _⟩

set_option maxRecDepth 100000 in
set_option maxHeartbeats 400000 in
theorem nil_remove (s : ByteArray) (w : World) : Calls Tryd.prog 43 #[.pointer none, .string s] w fun e w' => e = .returned (.int .i64 1) ∧ Below w.heap.size w w' := by
  have P := Lib.hid (fun v W => find_nil v W)
  go_enter Tryd.func43, Tryd.ntmps43
  go_wp2_with (first | (go_at_call 33; (with_reducible refine (P.out _ _).mono ?_); rintro e w5 ⟨rfl, rfl⟩))
  go_ret
  exact ⟨rfl, (((Below.refl _ w).alloc (by simp) _).alloc (by simp) _).alloc (by simp; omega) _⟩

set_option maxRecDepth 100000 in
set_option maxHeartbeats 400000 in
theorem nil_read (s : ByteArray) (w : World) : Calls Tryd.prog 30 #[.pointer none, .string s] w fun e w' => e = .returned (.tuple #[.slice none 0 0, .int .i64 1]) ∧ Below w.heap.size w w' := by
  have P := Lib.hid (fun v W => find_nil v W)
  go_enter Tryd.func30, Tryd.ntmps30
  go_wp2_with (first | (go_at_call 33; (with_reducible refine (P.out _ _).mono ?_); rintro e w5 ⟨rfl, rfl⟩))
  go_ret2
  exact ⟨rfl, (Below.refl _ w).alloc (by simp) _⟩

set_option maxRecDepth 100000 in
set_option maxHeartbeats 400000 in
theorem nil_list (w : World) : Calls Tryd.prog 41 #[.pointer none] w fun e w' => e = .returned (.slice none 0 0) ∧ w = w' := by
  go_enter Tryd.func41, Tryd.ntmps41
  go_wp2
  go_ret
  exact ⟨rfl, rfl⟩

set_option maxRecDepth 100000 in
set_option maxHeartbeats 400000 in
theorem nil_used (w : World) : Calls Tryd.prog 20 #[.pointer none] w fun e w' => e = .returned (.int .i64 0) ∧ w = w' := by
  go_enter Tryd.func20, Tryd.ntmps20
  go_wp2
  go_ret
  exact ⟨rfl, rfl⟩

set_option maxRecDepth 100000 in
set_option maxHeartbeats 400000 in
theorem nil_down (w : World) : Calls Tryd.prog 9 #[.pointer none] w fun e w' => e = .returned (.bool false) ∧ w = w' := by
  go_enter Tryd.func9, Tryd.ntmps9
  go_wp2
  go_ret
  exact ⟨rfl, rfl⟩

set_option maxRecDepth 100000 in
set_option maxHeartbeats 400000 in
theorem nil_arm (n : Int) (w : World) : Calls Tryd.prog 11 #[.pointer none, .int .i64 n] w fun e w' => e = .returned (.tuple #[]) ∧ w = w' := by
  go_enter Tryd.func11, Tryd.ntmps11
  go_wp2
  first
    | exact bodyPost_end (results_none rfl _ _ _) rfl ⟨rfl, rfl⟩
    | exact bodyPost_ret (results_none rfl _ _ _) rfl ⟨rfl, rfl⟩
set_option maxRecDepth 100000 in
set_option maxHeartbeats 400000 in
theorem nil_crash (a : Option Addr) (n c : Nat) (w : World) : Calls Tryd.prog 10 #[.pointer none, .slice a n c] w fun e w' => e = .returned (.tuple #[]) ∧ Below w.heap.size w w' := by
  go_enter Tryd.func10, Tryd.ntmps10
  go_wp2
  first
    | exact bodyPost_end (results_none rfl _ _ _) rfl ⟨rfl, (Below.refl _ w).alloc (Nat.le_refl _) _⟩
    | exact bodyPost_ret (results_none rfl _ _ _) rfl ⟨rfl, (Below.refl _ w).alloc (Nat.le_refl _) _⟩
#print axioms nil_append
end Go.Proofs.YtcnhifkpflaibaaDoor
