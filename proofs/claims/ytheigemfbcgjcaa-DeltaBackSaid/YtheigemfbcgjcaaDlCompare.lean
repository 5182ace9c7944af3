/-
  The walks of bytes.Compare, bytes.Equal, bytes.HasPrefix and of the three tests that longest hands on.
-/
import Derived.Lib.BytesEntry
import Derived.Test.YtheigemfbcgjcaaDlCmp
namespace Go.Proofs.Ytheigemfbcgjcaa
open Go.RowKit Go.Lib Go.Sort

theorem run_bytesOfD {w : World} {a : Option Addr} {n c : Nat} {l : List UInt8} (h : Bytes w a n c l) : (Extern.Bytes.bytesOf (.slice a n c)).run Try.prog w = .ok ⟨l.toArray⟩ w := by
  obtain ⟨h1, h2, h3, h4⟩ := h
  rcases h4 with ⟨rfl, rfl⟩ | ⟨b, off, rfl, hc⟩
  · have : l = [] := List.length_eq_zero_iff.1 h1
    subst this
    cases a with
    | none => rfl
    | some ad => rfl
  · have hl := Lib.run_loadBytesX (P := Try.prog) w (l.map fun x => (x.toNat : Int)) ⟨b, off, none⟩ .empty (fun j x hj => by
      have hjl : j < l.length := by have := (List.getElem?_eq_some_iff.1 hj).1; simpa using this
      have e : (⟨b, off, none⟩ : Addr).add j = ⟨b, off + j, none⟩ := by unfold Addr.add; split <;> simp_all
      rw [e, hc j (by omega)]
      rw [List.getElem?_map, List.getElem?_eq_getElem hjl] at hj
      obtain rfl := Option.some.inj hj
      rw [List.getD_eq_getElem?_getD, List.getElem?_eq_getElem hjl]
      rfl)
    rw [List.length_map, h1] at hl
    have e2 : Lib.bytesOf (l.map fun x => (x.toNat : Int)) = l := by
      unfold Lib.bytesOf
      rw [List.map_map]
      simp [Function.comp_def]
    rw [e2] at hl
    show (Extern.Bytes.loadBytes ⟨b, off, none⟩ n .empty).run Try.prog w = _
    rw [hl]
    simp
theorem run_cmpEntry {w : World} {a b : Option Addr} {n c m d : Nat} {x y : List UInt8} (hx : Bytes w a n c x) (hy : Bytes w b m d y) :
    (callFunc 50 #[.slice a n c, .slice b m d]).run Try.prog w = .ok (.value (.int .i64 (compareBytes x y))) w := by
  rw [run_callFunc_extern Try.func50 (by kernel_rfl) (by kernel_rfl) (by kernel_rfl) (e := Extern.BytealgCompare.compare) (by kernel_rfl)]
  change (Sem.run Try.prog (do pure (goInt (Extern.BytealgCompare.cmp (← Extern.Bytes.bytesOf (.slice a n c)) (← Extern.Bytes.bytesOf (.slice b m d))))) w).andThen _ = _
  simp only [Sem.run_bind, run_bytesOfD hx, run_bytesOfD hy, Result.andThen_ok, Sem.run_pure]
  rw [Lib.cmp_eq]
  rfl
set_option maxRecDepth 100000 in
set_option maxHeartbeats 400000 in
theorem compare_any {w : World} {a b : Option Addr} {n c m d : Nat} {x y : List UInt8} (hx : Bytes w a n c x) (hy : Bytes w b m d y) :
    Calls Try.prog 33 #[.slice a n c, .slice b m d] w fun e w' => e = .returned (.int .i64 (compareBytes x y)) ∧ w = w' := by
  have hr := run_cmpEntry hx hy
  clear hx hy
  go_enter Try.func33, Try.ntmps33
  go_wp2
  go_ret
  exact ⟨rfl, rfl⟩
theorem str_eqD (x y : List UInt8) : ((strB x).toList == (strB y).toList) = decide (x = y) := by
  rw [ByteArray.toList_eq, ByteArray.toList_eq, strB_list, strB_list]
  by_cases h : x = y <;> simp [h]
set_option maxRecDepth 100000 in
set_option maxHeartbeats 400000 in
theorem equalD_any {W : World} {a b : Option Addr} {n c m d : Nat} {x y : List UInt8} (hx : Bytes W a n c x) (hy : Bytes W b m d y) {q : Bool} (hq : decide (x = y) = q) :
    Calls Try.prog 51 #[.slice a n c, .slice b m d] W fun e w' => e = .returned (.bool q) ∧ W = w' := by
  have h1 := run_str hx 9 Try.underlying9
  have h2 := run_str hy 9 Try.underlying9
  have h3 := (str_eqD x y).trans hq
  go_enter Try.func51, Try.ntmps51
  go_wp2
  go_ret
  exact ⟨rfl, rfl⟩
theorem bytes_take {w : World} {a : Option Addr} {n c k : Nat} {l : List UInt8} (h : Bytes w a n c l) (hk : k ≤ n) : Bytes w a k c (l.take k) := by
  obtain ⟨h1, h2, h3, h4⟩ := h
  refine ⟨by rw [List.length_take]; omega, by omega, h3, ?_⟩
  rcases h4 with ⟨rfl, rfl⟩ | ⟨b, off, rfl, hc⟩
  · exact .inl ⟨by omega, rfl⟩
  · refine .inr ⟨b, off, rfl, fun j hj => ?_⟩
    rw [hc j (by omega), List.getD_eq_getElem?_getD, List.getD_eq_getElem?_getD, List.getElem?_take, if_pos hj]
set_option maxRecDepth 100000 in
set_option maxHeartbeats 400000 in
theorem hasPrefix_any {w : World} {a b : Option Addr} {n c m d : Nat} {x y : List UInt8} (hx : Bytes w a n c x) (hy : Bytes w b m d y) {q : Bool} (hq : decide (y <+: x) = q) :
    Calls Try.prog 37 #[.slice a n c, .slice b m d] w fun e w' => e = .returned (.bool q) ∧ w = w' := by
  have hn := hx.1
  have hm := hy.1
  have hnc := hx.2.1
  have h3 := hx.2.2.1
  by_cases hle : m ≤ n
  · have HE := Lib.hid (equalD_any (bytes_take hx hle) hy (q := q) (by
      rw [← hq]
      congr 1
      apply propext
      rw [List.prefix_iff_eq_take, hm]
      exact ⟨fun e => e.symm, fun e => e.symm⟩))
    have hI : (m : Int) ≤ (n : Int) := by omega
    have hI2 : (m : Int) ≤ (c : Int) := by omega
    have h0 : (0 : Int) ≤ (m : Int) := by omega
    have hd : decide ((m : Int) ≤ (n : Int)) = true := decide_eq_true hI
    clear hx hy hq
    go_enter Try.func37, Try.ntmps37
    go_wp2_with (go_at_call 51; go_must (refine HE.out.mono ?_; rintro e w1 ⟨rfl, rfl⟩))
    go_ret
    exact ⟨rfl, rfl⟩
  · have hqf : q = false := by
      rw [← hq]
      apply decide_eq_false
      intro hp
      have := hp.length_le
      omega
    subst hqf
    have hI : ¬ (m : Int) ≤ (n : Int) := by omega
    have hI2 : (n : Int) < (m : Int) := by omega
    have hd : decide ((m : Int) ≤ (n : Int)) = false := decide_eq_false hI
    clear hx hy hq
    go_enter Try.func37, Try.ntmps37
    go_wp2
    go_ret
    exact ⟨rfl, rfl⟩
set_option maxRecDepth 100000 in
set_option maxHeartbeats 400000 in
theorem test1_any {w : World} {a b : Option Addr} {n c m d gx : Nat} {x y : List UInt8} (hx : Bytes w a n c x) (hy : Bytes w b m d y) (hc : w.cell? ⟨gx, 0, none⟩ = some (.slice b m d)) {q : Bool} (hq : decide (0 ≤ compareBytes x y) = q) :
    Calls Try.prog 32 #[.slice a n c, .pointer (some ⟨gx, 0, none⟩)] w fun e w' => e = .returned (.bool q) ∧ w = w' := by
  have HC := Lib.hid (compare_any hx hy)
  clear hx hy
  go_enter Try.func32, Try.ntmps32
  go_wp2_with (go_at_call 33; go_must (refine HC.out.mono ?_; rintro e w1 ⟨rfl, rfl⟩))
  go_ret
  exact ⟨rfl, rfl⟩
set_option maxRecDepth 100000 in
set_option maxHeartbeats 400000 in
theorem test2_any {w : World} {a b : Option Addr} {n c m d gx : Nat} {x y : List UInt8} (hx : Bytes w a n c x) (hy : Bytes w b m d y) (hc : w.cell? ⟨gx, 0, none⟩ = some (.slice b m d)) {q : Bool} (hq : decide (0 ≤ compareBytes x y) = q) :
    Calls Try.prog 35 #[.slice a n c, .pointer (some ⟨gx, 0, none⟩)] w fun e w' => e = .returned (.bool q) ∧ w = w' := by
  have HC := Lib.hid (compare_any hx hy)
  clear hx hy
  go_enter Try.func35, Try.ntmps35
  go_wp2_with (go_at_call 33; go_must (refine HC.out.mono ?_; rintro e w1 ⟨rfl, rfl⟩))
  go_ret
  exact ⟨rfl, rfl⟩
set_option maxRecDepth 100000 in
set_option maxHeartbeats 400000 in
theorem test3_any {w : World} {a b : Option Addr} {n c m d gx : Nat} {x y : List UInt8} (hx : Bytes w a n c x) (hy : Bytes w b m d y) (hc : w.cell? ⟨gx, 0, none⟩ = some (.slice b m d)) {q : Bool} (hq : decide (y <+: x) = q) :
    Calls Try.prog 36 #[.slice a n c, .pointer (some ⟨gx, 0, none⟩)] w fun e w' => e = .returned (.bool !q) ∧ w = w' := by
  have HC := Lib.hid (hasPrefix_any hx hy hq)
  clear hx hy hq
  go_enter Try.func36, Try.ntmps36
  go_wp2_with (go_at_call 37; go_must (refine HC.out.mono ?_; rintro e w1 ⟨rfl, rfl⟩))
  go_ret
  exact ⟨rfl, rfl⟩
end Go.Proofs.Ytheigemfbcgjcaa
