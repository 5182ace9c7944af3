/-
  The walk of ShaCuts.
-/
import Derived.Test.YtkjgcgdfofheeaaDoorShaEq
import Derived.Deep.RegionHeld2
namespace Go.Proofs.YtkjgcgdfofheeaaDoor
open Go.RowKit

theorem drewB {w w' : World} (h : Below w.heap.size w w') : Below w.heap.size w w'.drew := ⟨h.os, h.tape, h.output, h.size, h.block⟩

theorem cut_num (x : Int) (n : Nat) (hn : (n : Int) ≤ 5000) : ∃ k : Nat, k ≤ n ∧ wrap64 ((IntKind.u64.wrap x).tmod ((n : Int) + 1)) = (k : Int) := by
  have h0 : 0 ≤ IntKind.u64.wrap x := by unfold IntKind.wrap; simp [IntKind.bits, IntKind.signed]; omega
  have h1 : (IntKind.u64.wrap x).tmod ((n : Int) + 1) = (IntKind.u64.wrap x) % ((n : Int) + 1) := Int.tmod_eq_emod_of_nonneg h0
  have h2 : 0 ≤ (IntKind.u64.wrap x) % ((n : Int) + 1) := Int.emod_nonneg _ (by omega)
  have h3 : (IntKind.u64.wrap x) % ((n : Int) + 1) < (n : Int) + 1 := Int.emod_lt_of_pos _ (by omega)
  refine ⟨((IntKind.u64.wrap x) % ((n : Int) + 1)).toNat, by omega, ?_⟩
  rw [h1]
  generalize (IntKind.u64.wrap x) % ((n : Int) + 1) = y at h2 h3
  unfold wrap64
  omega

theorem Bytes.head {w : World} {a : Option Addr} {n c : Nat} {l : List UInt8} (h : Bytes w a n c l) (k : Nat) (hk : k ≤ n) : Bytes w a k c (l.take k) := by
  obtain ⟨h1, h2, h3, h4⟩ := h
  refine ⟨by simp; omega, by omega, h3, ?_⟩
  rcases h4 with ⟨h5, h6⟩ | ⟨b, off, ha, hc⟩
  · exact .inl ⟨by omega, h6⟩
  · refine .inr ⟨b, off, ha, fun j hj => ?_⟩
    rw [hc j (by omega)]
    simp [hj]

set_option maxRecDepth 100000 in
set_option maxHeartbeats 1000000 in
theorem shaCuts_far (b so n c : Nat) (l : List UInt8) (x : Int) (k : Nat) (hkn : k ≤ n) (hck : c ≠ k) (hn : (n : Int) ≤ 5000) (hk : wrap64 ((IntKind.u64.wrap x).tmod ((n : Int) + 1)) = (k : Int)) (w : World) (hb : Bytes w (some ⟨b, so, none⟩) n c l) (ht : Tables w) :
    Calls Tryd.prog 5 #[.slice (some ⟨b, so, none⟩) n c, .int .i64 x] w fun e w' => e = .returned (.bool true) ∧ Below w.heap.size w w' := by
  have hn63 := hb.2.1
  have hc63 := hb.2.2.1
  have hT := Lib.hid ht
  have hgs := Lib.hid ht.round.lt
  have B0 := Lib.hid hb
  have B1 := Lib.hid (hb.head k hkn)
  have B2 := Lib.hid (show Bytes w (some ⟨b, so + k, none⟩) (n - k) (c - k) (l.drop k) by
    have := hb.cut k (n - k) (by omega)
    rwa [List.take_of_length_le (by simp; have := hb.1; omega)] at this)
  have HL := Lib.hid hb.1
  clear ht hb
  have hd : decide (5000 < (n : Int)) = false := by simp; omega
  go_enter Tryd.func5, Tryd.ntmps5
  go_wp2_with (first
    | (go_at_call 12; go_must (refine (new_any _ hT.out).mono ?_); rintro e w2 ⟨rfl, hh2, hbel2⟩)
    | ((with_reducible show Calls _ 13 _ w2 _); go_must (refine (write_each w.heap.size [] _ k c (l.take k) w2 hh2 (hT.out.below hbel2) (by have := hgs.out; omega) (B1.out.below hbel2) (bytes_notIn B1.out (Nat.le_refl _)) (by have := HL.out; simp; omega)).mono ?_); rintro e w3 ⟨rfl, hh3, hgr3⟩; have hbel3 := hbel2.grown hgr3 hbel2.size (fun k hk => by simp at hk; omega))
    | ((with_reducible show Calls _ 13 _ w3 _); go_must (refine (write_each w.heap.size _ none 0 0 [] w3 hh3 (hT.out.below hbel3) (by have := hgs.out; omega) (Bytes.nil _) (fun h => absurd rfl h) (by have := HL.out; simp; omega)).mono ?_); rintro e w4 ⟨rfl, hh4, hgr4⟩; have hbel4 := hbel3.grown hgr4 hbel3.size (fun k hk => by simp at hk; omega))
    | ((with_reducible show Calls _ 13 _ w4 _); go_must (refine (write_each w.heap.size _ _ (n - k) (c - k) (l.drop k) w4 hh4 (hT.out.below hbel4) (by have := hgs.out; omega) (B2.out.below hbel4) (bytes_notIn B2.out (Nat.le_refl _)) (by have := HL.out; simp; omega)).mono ?_); rintro e w5 ⟨rfl, hh5, hgr5⟩; have hbel5 := hbel4.grown hgr5 hbel4.size (fun k hk => by simp at hk; omega)))
  have hh : HashOf w5 w.heap.size l := by simpa using hh5
  clear hh2 hh3 hh4 hh5 hgr3 hgr4 hgr5 hbel2 hbel3 hbel4
  have hA5 : Held w.heap.size w w.heap.size l (l.take k) (l.drop k) (some ⟨b, so, none⟩) n c (some ⟨b, so, none⟩) k c (some ⟨b, so + k, none⟩) (n - k) (c - k) w5.drew :=
    ⟨hbel5.size, ⟨hbel5.os, hbel5.tape, hbel5.output, hbel5.size, hbel5.block⟩, hh, ⟨(hT.out.below hbel5).first, (hT.out.below hbel5).round⟩, B0.out.below (drewB hbel5), B1.out.below (drewB hbel5), B2.out.below (drewB hbel5)⟩
  have hA5' := fun o => (show Held w.heap.size w w.heap.size l (l.take k) (l.drop k) (some ⟨b, so, none⟩) n c (some ⟨b, so, none⟩) k c (some ⟨b, so + k, none⟩) (n - k) (c - k) (World.drew (w5.alloc o)) from hA5.alloc o)
  have hP5' := fun (a : Option Addr) (n c : Nat) (h : Bytes w5.drew a n c l) => (show Parts (World.drew (w5.alloc (.cells #[.slice a n c] 22))) (some ⟨w5.heap.size, 0, none⟩) 1 [l] from parts1 h rfl)
  have hkc : k ≤ c := by omega
  have hq : ∀ (W : World) (m : List UInt8), (Op.equalIn 10000 24 (.agg (bytesV (sumF m)).toArray) (.agg (bytesV (sumF m)).toArray)).run Tryd.prog W = .ok true W := fun W m => run_eq_id W (sumF_length m)
  have HL2 := Lib.hid (show l.length ≤ 100000000000000 by have := HL.out; omega)
  have HTD := Lib.hid (List.take_append_drop k l)
  clear hh hbel5 B0 B1 B2 hT
  go_region_held2 (fun _ => True) (trivial) (first
    | ((with_reducible show Calls _ 15 _ (World.drew w5) _); refine (hsum_any w.heap.size l _ hA5.hash hA5.tabs (by have := hgs.out; omega) HL2.out).mono ?_; rintro e w6 ⟨rfl, hb6⟩; have hA6 := hA5.next hb6)
    | ((with_reducible show Calls _ 15 _ (World.drew (World.alloc w5 _)) _); refine (hsum_any w.heap.size l _ (hA5' _).hash (hA5' _).tabs (by have := hgs.out; omega) HL2.out).mono ?_; rintro e w6 ⟨rfl, hb6⟩; have hA6 := (hA5' _).next hb6; have hP5 := (hP5' _ _ _ hA5.b0).below hb6)
    | ((with_reducible show Calls _ 8 #[.slice _ 1 1] w6 _); refine (sum_one _ l _ hP5 hA6.tabs HL2.out).mono ?_; rintro e w7 ⟨rfl, hb7⟩; have hA7 := hA6.next hb7)
    | ((with_reducible show Calls _ 8 #[.slice _ 1 1] (World.alloc w6 _) _); refine (sum_one _ l _ (parts1 hA6.b0 rfl) (hA6.alloc _).tabs HL2.out).mono ?_; rintro e w7 ⟨rfl, hb7⟩; have hA7 := (hA6.alloc _).next hb7)
    | ((with_reducible show Calls _ 8 #[.slice (some ⟨w7.heap.size, 0, none⟩) 2 2] (World.alloc w7 _) _); refine (sum_two _ (l.take k) (l.drop k) l HTD.out _ (parts2 hA7.b1 hA7.b2 rfl) (hA7.alloc _).tabs HL2.out).mono ?_; rintro e w8 ⟨rfl, hb8⟩; have hA8 := (hA7.alloc _).next hb8)
    | ((with_reducible show Calls _ 8 #[.slice (some ⟨w7.heap.size, 0, none⟩) 2 2] (World.alloc (World.alloc w7 _) _) _); refine (sum_two _ (l.take k) (l.drop k) l HTD.out _ ((parts2 hA7.b1 hA7.b2 rfl).alloc _) ((hA7.alloc _).alloc _).tabs HL2.out).mono ?_; rintro e w8 ⟨rfl, hb8⟩; have hA8 := ((hA7.alloc _).alloc _).next hb8)
    | ((with_reducible show Calls _ 8 #[.slice (some ⟨(w7.heap.size + 1), 0, none⟩) 2 2] (World.alloc (World.alloc w7 _) _) _); refine (sum_two _ (l.take k) (l.drop k) l HTD.out _ (parts2 (hA7.b1.alloc _) (hA7.b2.alloc _) (by simp)) ((hA7.alloc _).alloc _).tabs HL2.out).mono ?_; rintro e w8 ⟨rfl, hb8⟩; have hA8 := ((hA7.alloc _).alloc _).next hb8)
    | ((with_reducible show Calls _ 8 #[.slice _ 1 1] (World.alloc w8 _) _); refine (sum_one _ l _ (parts1 hA8.b0 rfl) (hA8.alloc _).tabs HL2.out).mono ?_; rintro e w9 ⟨rfl, hb9⟩; have hA9 := (hA8.alloc _).next hb9)
    | ((with_reducible show Calls _ 8 #[.slice (some ⟨(w7.heap.size + 1), 0, none⟩) 1 1] w8 _); refine (sum_one _ l _ ((parts1 (hA7.b0.alloc _) (by simp)).below hb8) (hA8).tabs HL2.out).mono ?_; rintro e w9 ⟨rfl, hb9⟩; have hA9 := (hA8).next hb9)
    | ((with_reducible show Calls _ 8 #[.slice (some ⟨w7.heap.size, 0, none⟩) 1 1] w8 _); refine (sum_one _ l _ (((parts1 hA7.b0 rfl).alloc _).below hb8) (hA8).tabs HL2.out).mono ?_; rintro e w9 ⟨rfl, hb9⟩; have hA9 := (hA8).next hb9)
    | ((with_reducible show Calls _ 14 _ w9 _); have hln := len_any _ _ _ hA9.hash; rw [HL.out] at hln; refine hln.mono ?_; rintro e w10 ⟨rfl, rfl⟩)
    | ((with_reducible show Calls _ 11 _ w9 _); refine (awake_any _ hA9.tabs).mono ?_; rintro e w11 ⟨rfl, hb11⟩))
  all_goals go_wp2
  all_goals go_ret
  all_goals exact ⟨rfl, hA9.below.trans (hb11.mono hA9.size)⟩
set_option maxRecDepth 100000 in
set_option maxHeartbeats 1000000 in
theorem shaCuts_near (a : Option Addr) (l : List UInt8) (x : Int) (k : Nat) (hn : (k : Int) ≤ 5000) (hk : wrap64 ((IntKind.u64.wrap x).tmod ((k : Int) + 1)) = (k : Int)) (w : World) (hb : Bytes w a k k l) (ht : Tables w) :
    Calls Tryd.prog 5 #[.slice a k k, .int .i64 x] w fun e w' => e = .returned (.bool true) ∧ Below w.heap.size w w' := by
  have hc63 := hb.2.2.1
  have hT := Lib.hid ht
  have hgs := Lib.hid ht.round.lt
  have B0 := Lib.hid hb
  have B1 := Lib.hid (hb.head k (Nat.le_refl _))
  have B2 := Lib.hid (show Bytes w a 0 0 (l.drop k) from ⟨by simp; have := hb.1; omega, by omega, by omega, .inl ⟨rfl, rfl⟩⟩)
  have HL := Lib.hid hb.1
  clear ht hb
  have hd : decide (5000 < (k : Int)) = false := by simp; omega
  go_enter Tryd.func5, Tryd.ntmps5
  go_wp2_with (first
    | (go_at_call 12; go_must (refine (new_any _ hT.out).mono ?_); rintro e w2 ⟨rfl, hh2, hbel2⟩)
    | ((with_reducible show Calls _ 13 _ w2 _); go_must (refine (write_each w.heap.size [] _ k k (l.take k) w2 hh2 (hT.out.below hbel2) (by have := hgs.out; omega) (B1.out.below hbel2) (bytes_notIn B1.out (Nat.le_refl _)) (by have := HL.out; simp; omega)).mono ?_); rintro e w3 ⟨rfl, hh3, hgr3⟩; have hbel3 := hbel2.grown hgr3 hbel2.size (fun k hk => by simp at hk; omega))
    | ((with_reducible show Calls _ 13 _ w3 _); go_must (refine (write_each w.heap.size _ none 0 0 [] w3 hh3 (hT.out.below hbel3) (by have := hgs.out; omega) (Bytes.nil _) (fun h => absurd rfl h) (by have := HL.out; simp; omega)).mono ?_); rintro e w4 ⟨rfl, hh4, hgr4⟩; have hbel4 := hbel3.grown hgr4 hbel3.size (fun k hk => by simp at hk; omega))
    | ((with_reducible show Calls _ 13 _ w4 _); go_must (refine (write_each w.heap.size _ _ 0 0 (l.drop k) w4 hh4 (hT.out.below hbel4) (by have := hgs.out; omega) (B2.out.below hbel4) (bytes_notIn B2.out (Nat.le_refl _)) (by have := HL.out; simp; omega)).mono ?_); rintro e w5 ⟨rfl, hh5, hgr5⟩; have hbel5 := hbel4.grown hgr5 hbel4.size (fun k hk => by simp at hk; omega)))
  have hh : HashOf w5 w.heap.size l := by simpa using hh5
  clear hh2 hh3 hh4 hh5 hgr3 hgr4 hgr5 hbel2 hbel3 hbel4
  have hA5 : Held w.heap.size w w.heap.size l (l.take k) (l.drop k) a k k a k k a 0 0 w5.drew :=
    ⟨hbel5.size, ⟨hbel5.os, hbel5.tape, hbel5.output, hbel5.size, hbel5.block⟩, hh, ⟨(hT.out.below hbel5).first, (hT.out.below hbel5).round⟩, B0.out.below (drewB hbel5), B1.out.below (drewB hbel5), B2.out.below (drewB hbel5)⟩
  have hA5' := fun o => (show Held w.heap.size w w.heap.size l (l.take k) (l.drop k) a k k a k k a 0 0 (World.drew (w5.alloc o)) from hA5.alloc o)
  have hP5' := fun (a : Option Addr) (n c : Nat) (h : Bytes w5.drew a n c l) => (show Parts (World.drew (w5.alloc (.cells #[.slice a n c] 22))) (some ⟨w5.heap.size, 0, none⟩) 1 [l] from parts1 h rfl)
  have hq : ∀ (W : World) (m : List UInt8), (Op.equalIn 10000 24 (.agg (bytesV (sumF m)).toArray) (.agg (bytesV (sumF m)).toArray)).run Tryd.prog W = .ok true W := fun W m => run_eq_id W (sumF_length m)
  have HL2 := Lib.hid (show l.length ≤ 100000000000000 by have := HL.out; omega)
  have HTD := Lib.hid (List.take_append_drop k l)
  clear hh hbel5 B0 B1 B2 hT
  go_region_held2 (fun _ => True) (trivial) (first
    | ((with_reducible show Calls _ 15 _ (World.drew w5) _); refine (hsum_any w.heap.size l _ hA5.hash hA5.tabs (by have := hgs.out; omega) HL2.out).mono ?_; rintro e w6 ⟨rfl, hb6⟩; have hA6 := hA5.next hb6)
    | ((with_reducible show Calls _ 15 _ (World.drew (World.alloc w5 _)) _); refine (hsum_any w.heap.size l _ (hA5' _).hash (hA5' _).tabs (by have := hgs.out; omega) HL2.out).mono ?_; rintro e w6 ⟨rfl, hb6⟩; have hA6 := (hA5' _).next hb6; have hP5 := (hP5' _ _ _ hA5.b0).below hb6)
    | ((with_reducible show Calls _ 8 #[.slice _ 1 1] w6 _); refine (sum_one _ l _ hP5 hA6.tabs HL2.out).mono ?_; rintro e w7 ⟨rfl, hb7⟩; have hA7 := hA6.next hb7)
    | ((with_reducible show Calls _ 8 #[.slice _ 1 1] (World.alloc w6 _) _); refine (sum_one _ l _ (parts1 hA6.b0 rfl) (hA6.alloc _).tabs HL2.out).mono ?_; rintro e w7 ⟨rfl, hb7⟩; have hA7 := (hA6.alloc _).next hb7)
    | ((with_reducible show Calls _ 8 #[.slice (some ⟨w7.heap.size, 0, none⟩) 2 2] (World.alloc w7 _) _); refine (sum_two _ (l.take k) (l.drop k) l HTD.out _ (parts2 hA7.b1 hA7.b2 rfl) (hA7.alloc _).tabs HL2.out).mono ?_; rintro e w8 ⟨rfl, hb8⟩; have hA8 := (hA7.alloc _).next hb8)
    | ((with_reducible show Calls _ 8 #[.slice (some ⟨w7.heap.size, 0, none⟩) 2 2] (World.alloc (World.alloc w7 _) _) _); refine (sum_two _ (l.take k) (l.drop k) l HTD.out _ ((parts2 hA7.b1 hA7.b2 rfl).alloc _) ((hA7.alloc _).alloc _).tabs HL2.out).mono ?_; rintro e w8 ⟨rfl, hb8⟩; have hA8 := ((hA7.alloc _).alloc _).next hb8)
    | ((with_reducible show Calls _ 8 #[.slice (some ⟨(w7.heap.size + 1), 0, none⟩) 2 2] (World.alloc (World.alloc w7 _) _) _); refine (sum_two _ (l.take k) (l.drop k) l HTD.out _ (parts2 (hA7.b1.alloc _) (hA7.b2.alloc _) (by simp)) ((hA7.alloc _).alloc _).tabs HL2.out).mono ?_; rintro e w8 ⟨rfl, hb8⟩; have hA8 := ((hA7.alloc _).alloc _).next hb8)
    | ((with_reducible show Calls _ 8 #[.slice _ 1 1] (World.alloc w8 _) _); refine (sum_one _ l _ (parts1 hA8.b0 rfl) (hA8.alloc _).tabs HL2.out).mono ?_; rintro e w9 ⟨rfl, hb9⟩; have hA9 := (hA8.alloc _).next hb9)
    | ((with_reducible show Calls _ 8 #[.slice (some ⟨(w7.heap.size + 1), 0, none⟩) 1 1] w8 _); refine (sum_one _ l _ ((parts1 (hA7.b0.alloc _) (by simp)).below hb8) (hA8).tabs HL2.out).mono ?_; rintro e w9 ⟨rfl, hb9⟩; have hA9 := (hA8).next hb9)
    | ((with_reducible show Calls _ 8 #[.slice (some ⟨w7.heap.size, 0, none⟩) 1 1] w8 _); refine (sum_one _ l _ (((parts1 hA7.b0 rfl).alloc _).below hb8) (hA8).tabs HL2.out).mono ?_; rintro e w9 ⟨rfl, hb9⟩; have hA9 := (hA8).next hb9)
    | ((with_reducible show Calls _ 14 _ w9 _); have hln := len_any _ _ _ hA9.hash; rw [HL.out] at hln; refine hln.mono ?_; rintro e w10 ⟨rfl, rfl⟩)
    | ((with_reducible show Calls _ 11 _ w9 _); refine (awake_any _ hA9.tabs).mono ?_; rintro e w11 ⟨rfl, hb11⟩))
  all_goals go_wp2
  all_goals go_ret
  all_goals exact ⟨rfl, hA9.below.trans (hb11.mono hA9.size)⟩

theorem shaCuts_any (a : Option Addr) (n c : Nat) (l : List UInt8) (x : Int) (w : World) (hb : Bytes w a n c l) (ht : Tables w) :
    Calls Tryd.prog 5 #[.slice a n c, .int .i64 x] w fun e w' => e = .returned (.bool true) ∧ Below w.heap.size w w' := by
  by_cases hn : (n : Int) ≤ 5000
  · obtain ⟨k, hkn, hk⟩ := cut_num x n hn
    by_cases hck : c = k
    · have hnc := hb.2.1
      obtain rfl : n = c := by omega
      subst hck
      exact shaCuts_near a l x n hn hk w hb ht
    · obtain ⟨b, so, rfl⟩ : ∃ b so, a = some ⟨b, so, none⟩ := by
        rcases hb.2.2.2 with ⟨h1, h2⟩ | ⟨b, so, rfl, _⟩
        · omega
        · exact ⟨b, so, rfl⟩
      exact shaCuts_far b so n c l x k hkn hck hn hk w hb ht
  · have hd : decide (5000 < (n : Int)) = true := by simp; omega
    clear ht hb
    go_enter Tryd.func5, Tryd.ntmps5
    go_wp2
    go_ret
    exact ⟨rfl, Below.refl _ _⟩
#print axioms shaCuts_any
end Go.Proofs.YtkjgcgdfofheeaaDoor
