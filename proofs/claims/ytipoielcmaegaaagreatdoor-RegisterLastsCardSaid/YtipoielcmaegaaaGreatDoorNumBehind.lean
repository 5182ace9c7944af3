/-
  The walks of strings.Cut at a slash, of Itoa and Atoi as this program calls them, and of numberBehind.
-/
import Derived.Test.YtipoielcmaegaaaGreatDoorAuthor
import Derived.Test.YtipoielcmaegaaaGreatDoorPtAll
import Derived.Test.YtipoielcmaegaaaGreatDoorPathShelf
import Derived.Lib.AtoiErrMem
import Derived.Lib.AtoiAllCases
import Derived.WalkSmall
namespace Go.Proofs.YtipoielcmaegaaaGreatDoor
open Go.RowKit Go.Shelf

/-- A sentinel's variable. -/
def ErrVar (w : World) (n : String) : Prop := ∃ tp p, w.var? Tryz.prog n = some #[.iface tp p]
/-- What the library's variables hold, here and in every world that stands on this one. -/
def PTabs (w : World) : Prop := ∀ w', Below w.heap.size w w' → Tabs w' ∧ Lib.TabIs Tryz.prog w' "internal/strconv.uint64pow10" .u64 Lib.pow10Tab ∧ ErrVar w' "strconv.ErrSyntax" ∧ ErrVar w' "strconv.ErrRange"
theorem PTabs.below {w w' : World} (h : PTabs w) (hb : Below w.heap.size w w') : PTabs w' := fun w'' h' => h w'' (Below.step hb h')
theorem PTabs.tabs {w : World} (h : PTabs w) : Tabs w := (h w (Below.refl _ _)).1

theorem below_growN (w : World) (k : Nat) (os : Array Obj) : Below w.heap.size w (Go.Sort.grow (w.drewN k) os) :=
  ⟨rfl, rfl, rfl, by show w.heap.size ≤ (w.heap ++ os).size; rw [Array.size_append]; omega, fun j hj => by
    show (w.heap ++ os)[j]? = w.heap[j]?
    rw [Array.getElem?_append_left hj]⟩

theorem itoa_is (n : Int) (w : World) (h0 : -9223372036854775808 ≤ n) (h1 : n ≤ 9223372036854775807) (hT : PTabs w) :
    Calls Tryz.prog 30 #[.int .i64 n] w fun e w' => e = .returned (.string (strB (Lib.itoa n))) ∧ Below w.heap.size w w' :=
  (Tryz.strconv_Itoa n h0 h1 w (hT w (Below.refl _ _)).2.1).mono fun e w' h => by
    obtain ⟨he, k, os, rfl⟩ := h
    exact ⟨he, below_growN w k os⟩

/-- Atoi of a numeral; of what is none. -/
theorem atoi_ok (s : ByteArray) (v : Int) (w : World) (hs : s.size ≤ 140737488355328) (h : Lib.atoiAll s.data.toList = .ok v) :
    Calls Tryz.prog 48 #[.string s] w fun e w' => e = .returned (.tuple #[.int .i64 v, .nilIface]) ∧ Below w.heap.size w w' :=
  (Tryz.strconv_Atoi_ok s (by omega) v h w).mono fun e w' h => by
    obtain ⟨he, rfl | ⟨t, rfl⟩⟩ := h
    · exact ⟨he, Below.refl _ _⟩
    · exact ⟨he, Lib.bytesWorld_below _ _ _⟩
theorem atoi_no (s : ByteArray) (w : World) (hs : s.size ≤ 140737488355328) (hT : PTabs w) (h : ∀ v, Lib.atoiAll s.data.toList ≠ .ok v) :
    Calls Tryz.prog 48 #[.string s] w fun e w' => ∃ v t p, e = .returned (.tuple #[.int .i64 v, .iface t (.pointer (some p))]) ∧ Below w.heap.size w w' := by
  obtain ⟨_, _, ⟨tp, p, hv⟩, ⟨tq, q, hw⟩⟩ := hT w (Below.refl _ _)
  have h1 := fun h => Any.strconv_Atoi_syntax_var Tryz.laysC172 s (by omega) h tp p w hv
  have h2 := fun h => Any.strconv_Atoi_range_var Tryz.laysC172 s (by omega) h tq q w hw
  cases ha : Lib.atoiAll s.data.toList
  case ok v => exact absurd ha (h v)
  case range => exact (h2 ha).mono fun e w' ⟨N, he, _, _, hb⟩ => ⟨_, _, _, he, hb⟩
  exact (h1 ha).mono fun e w' ⟨N, he, _, _, hb⟩ => ⟨_, _, _, he, hb⟩

/-- strings.Cut at a slash: the first part. -/
def CutIs (l : List UInt8) (w : World) (e : Ending) (w' : World) : Prop := ∃ x b, e = .returned (.tuple #[.string (strB (hdF l)), .string x, .bool b]) ∧ Below w.heap.size w w'

theorem hd_ext (s : ByteArray) (k : Nat) (h : (hdF s.data.toList).length = k) : s.extract 0 k = strB (hdF s.data.toList) := by
  have : (s.extract 0 k).data.toList = hdF s.data.toList := by rw [b_ext, List.drop_zero, Nat.sub_zero, ← h, hd_take]
  rw [← this, strB_of]

set_option maxRecDepth 100000 in
set_option maxHeartbeats 400000 in
theorem lite_cut (s : ByteArray) (w : World) (hs : s.size ≤ 140737488355328) :
    Calls Tryz.prog 71 #[.string s, .string ⟨#[47]⟩] w (CutIs s.data.toList w) := by
  have hix := index_hd s.data.toList
  have hle := hd_le s.data.toList
  rw [b_len] at hix hle
  obtain ⟨k, hk⟩ : ∃ k, (hdF s.data.toList).length = k := ⟨_, rfl⟩
  rw [hk] at hix hle
  have HC := Lib.hid (Tryz.stringslite_Index_one s 47 w)
  by_cases he : k = s.size
  · rw [if_pos he] at hix
    rw [hix] at HC
    have HX := Lib.hid (show s = strB (hdF s.data.toList) by
      rw [← hd_ext s k hk, he]; simp)
    clear hix hle hk he
    go_enter Tryz.func71, Tryz.ntmps71
    go_wp2_with (go_at_call 44; (with_reducible refine HC.out.mono ?_); rintro e w1 ⟨rfl, rfl⟩)
    go_ret3
    exact ⟨⟨#[]⟩, false, by rw [← HX.out]; rfl, Below.refl _ _⟩
  · rw [if_neg he] at hix
    rw [hix] at HC
    have HX := Lib.hid (hd_ext s k hk)
    have c1 : (0 : Int) ≤ (k : Int) := by omega
    have c2 : (k : Int) ≤ (s.size : Int) := by omega
    have c3 : (k : Int) + 1 ≤ (s.size : Int) := by omega
    have c4 : k ≤ s.size := by omega
    have c5 : k + 1 ≤ s.size := by omega
    have c6 : IntKind.i64.wrap ((k : Int) + 1) = (k : Int) + 1 := by rw [IntKind.wrap_i64]; omega
    have c7 : ((k : Int) + 1).toNat = k + 1 := by omega
    have c8 : (0 : Int) ≤ (k : Int) + 1 := by omega
    clear hix hle hk he
    go_enter Tryz.func71, Tryz.ntmps71
    go_wp2_with (go_at_call 44; (with_reducible refine HC.out.mono ?_); rintro e w1 ⟨rfl, rfl⟩)
    go_quiet (fail)
    go_wp2
    go_ret3
    exact ⟨s.extract (k + 1) s.size, true, by rw [← HX.out]; rfl, below_drewG (Below.refl _ _) _⟩
set_option maxRecDepth 100000 in
set_option maxHeartbeats 400000 in
theorem cut_any (s : ByteArray) (w : World) (hs : s.size ≤ 140737488355328) :
    Calls Tryz.prog 47 #[.string s, .string ⟨#[47]⟩] w (CutIs s.data.toList w) := by
  have HC := Lib.hid (lite_cut s w hs)
  clear hs
  go_enter Tryz.func47, Tryz.ntmps47
  go_wp2_with (go_at_call 71; (with_reducible refine HC.out.mono ?_); rintro e w1 ⟨x, b, rfl, hb⟩)
  go_ret3
  exact ⟨x, b, rfl, hb⟩

theorem startF_len (p : List UInt8) (s : ByteArray) (k : Nat) (h : p.length = k) : (s.extract k s.size).data.toList = s.data.toList.drop p.length := by
  rw [b_ext, h, List.take_of_length_le (by rw [List.length_drop, b_len]; omega)]

set_option maxRecDepth 100000 in
set_option maxHeartbeats 1000000 in
theorem nb_any (s p : ByteArray) (w : World) (hs : s.size ≤ 140737488355328) (hT : PTabs w) :
    Calls Tryz.prog 31 #[.string s, .string p] w fun e w' => e = .returned (.int .i64 (nbF s.data.toList p.data.toList)) ∧ Below w.heap.size w w' := by
  obtain ⟨r, hr⟩ : ∃ r, r = nbF s.data.toList p.data.toList := ⟨_, rfl⟩
  rw [← hr]
  have HP := Lib.hid (Tryz.strings_HasPrefix s p w)
  cases hpre : Lib.hasPrefix s.data.toList p.data.toList with
  | false =>
    have HX := Lib.hid (show r = 0 by rw [hr]; unfold nbF; rw [hpre]; rfl)
    rw [hpre] at HP
    clear hr hs hT hpre
    go_enter Tryz.func31, Tryz.ntmps31
    go_wp2_with (go_at_call 46; (with_reducible refine HP.out.mono ?_); rintro e w1 ⟨rfl, rfl⟩)
    go_ret
    exact ⟨retN (by rw [HX.out]), Below.refl _ _⟩
  | true =>
    rw [hpre] at HP
    have hle : p.size ≤ s.size := by
      have := (List.isPrefixOf_iff_prefix.1 hpre).length_le
      rw [b_len, b_len] at this; exact this
    have hleI : (p.size : Int) ≤ (s.size : Int) := by omega
    obtain ⟨q, hq⟩ : ∃ q, q = hdF ((s.extract p.size s.size).data.toList) := ⟨_, rfl⟩
    have hq2 : q = hdF (s.data.toList.drop p.data.toList.length) := by rw [hq, startF_len p.data.toList s p.size (b_len p)]
    have hrq : r = match Lib.atoiAll q with | .ok v => if Lib.itoa v = q then v else 0 | _ => 0 := by
      rw [hr]; unfold nbF; rw [if_pos hpre, ← hq2]; cases Lib.atoiAll q <;> rfl
    have hqs : (strB q).size ≤ 140737488355328 := by
      rw [strB_size, hq2]
      have := hd_le (s.data.toList.drop p.data.toList.length)
      rw [List.length_drop, b_len s] at this; omega
    have hcq : ∀ w, Calls Tryz.prog 47 #[.string (s.extract p.size s.size), .string ⟨#[47]⟩] w fun e w' => ∃ x b, e = .returned (.tuple #[.string (strB q), .string x, .bool b]) ∧ Below w.heap.size w w' := by
      intro w
      have := cut_any (s.extract p.size s.size) w (by rw [ByteArray.size_extract]; omega)
      unfold CutIs at this
      rw [← hq] at this
      exact this
    have HC := Lib.hid hcq
    clear hcq
    have HTT := Lib.hid hT
    cases ha : Lib.atoiAll q
    case ok v =>
      rw [ha] at hrq
      obtain ⟨b0, b1⟩ := Lib.atoiAll_bounds ha
      have HA := Lib.hid (fun w => atoi_ok (strB q) v w hqs (by rw [strB_list]; exact ha))
      have HI := Lib.hid (fun w hT => itoa_is v w b0 b1 hT)
      by_cases he : Lib.itoa v = q
      · have hes : ((strB (Lib.itoa v)).toList != (strB q).toList) = false := by rw [he]; simp
        have hes2 : ((strB (Lib.itoa v)).toList == (strB q).toList) = true := by rw [he]; simp
        have HX := Lib.hid (show r = v by rw [hrq]; exact if_pos he)
        generalize hz : strB (Lib.itoa v) = z at HI hes hes2
        generalize hy : strB q = y at HA hes hes2 HC
        clear hr hrq hq hq2 hqs hT ha he hz hy hpre b0 b1
        go_enter Tryz.func31, Tryz.ntmps31
        go_wp2_with (first
          | (go_at_call 46; (with_reducible refine HP.out.mono ?_); rintro e w1 ⟨rfl, rfl⟩)
          | (go_at_call 47; (with_reducible refine (HC.out _).mono ?_); rintro e w2 ⟨x2, y2, rfl, hb2⟩; have HB2 := Lib.hid hb2; clear hb2)
          | (go_at_call 48; (with_reducible refine (HA.out _).mono ?_); rintro e w3 ⟨rfl, hb3⟩; have HB3 := Lib.hid (Below.step HB2.out hb3); clear hb3)
          | (go_at_call 30; (with_reducible refine (HI.out _ (HTT.out.below HB3.out)).mono ?_); rintro e w4 ⟨rfl, hb4⟩; have HB4 := Lib.hid (Below.step HB3.out hb4); clear hb4))
        go_ret
        exact ⟨retN HX.out.symm, HB4.out⟩
      · have hes : ((strB (Lib.itoa v)).toList != (strB q).toList) = true := by rw [bne_iff_ne, Lib.toList_data, Lib.toList_data, strB_list, strB_list]; exact he
        have hes2 : ((strB (Lib.itoa v)).toList == (strB q).toList) = false := by rw [beq_eq_false_iff_ne, Lib.toList_data, Lib.toList_data, strB_list, strB_list]; exact he
        have HX := Lib.hid (show r = 0 by rw [hrq]; exact if_neg he)
        generalize hz : strB (Lib.itoa v) = z at HI hes hes2
        generalize hy : strB q = y at HA hes hes2 HC
        clear hr hrq hq hq2 hqs hT ha he hz hy hpre b0 b1
        go_enter Tryz.func31, Tryz.ntmps31
        go_wp2_with (first
          | (go_at_call 46; (with_reducible refine HP.out.mono ?_); rintro e w1 ⟨rfl, rfl⟩)
          | (go_at_call 47; (with_reducible refine (HC.out _).mono ?_); rintro e w2 ⟨x2, y2, rfl, hb2⟩; have HB2 := Lib.hid hb2; clear hb2)
          | (go_at_call 48; (with_reducible refine (HA.out _).mono ?_); rintro e w3 ⟨rfl, hb3⟩; have HB3 := Lib.hid (Below.step HB2.out hb3); clear hb3)
          | (go_at_call 30; (with_reducible refine (HI.out _ (HTT.out.below HB3.out)).mono ?_); rintro e w4 ⟨rfl, hb4⟩; have HB4 := Lib.hid (Below.step HB3.out hb4); clear hb4))
        go_ret
        exact ⟨retN HX.out.symm, HB4.out⟩
    all_goals
      rw [ha] at hrq
      have HX := Lib.hid hrq
      have HA := Lib.hid (fun w hT => atoi_no (strB q) w hqs hT (by rw [strB_list, ha]; intro v h; cases h))
      generalize hy : strB q = y at HA HC
      clear hr hrq hq hq2 hqs hT ha hy hpre
      go_enter Tryz.func31, Tryz.ntmps31
      go_wp2_with (first
        | (go_at_call 46; (with_reducible refine HP.out.mono ?_); rintro e w1 ⟨rfl, rfl⟩)
        | (go_at_call 47; (with_reducible refine (HC.out _).mono ?_); rintro e w2 ⟨x2, y2, rfl, hb2⟩; have HB2 := Lib.hid hb2; clear hb2)
        | (go_at_call 48; (with_reducible refine (HA.out _ (HTT.out.below HB2.out)).mono ?_); rintro e w3 ⟨v3, t3, p3, rfl, hb3⟩; have HB3 := Lib.hid (Below.step HB2.out hb3); clear hb3))
      go_ret
      exact ⟨retN HX.out.symm, HB3.out⟩
#print axioms nb_any
end Go.Proofs.YtipoielcmaegaaaGreatDoor
