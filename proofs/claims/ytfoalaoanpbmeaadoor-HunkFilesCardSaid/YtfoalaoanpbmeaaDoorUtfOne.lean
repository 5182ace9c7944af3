/-
  The walk of the document's One.
-/
import Derived.Test.YtfoalaoanpbmeaaDoorGrp10
import Derived.Deep.QuietTactic
import Derived.BigQuiet
import Derived.WalkSmall
import Derived.Deep.LoopGhost
import Derived.Deep.RegionHeld
import Derived.Deep.Cut
import Derived.IntWalk
namespace Go.Proofs.YtfoalaoanpbmeaaDoor
open Go.RowKit (wrap64)
open Go.RowKit

/-- What One answers. -/
def OneIs (l : List UInt8) (w : World) (e : Ending) (w' : World) : Prop := e = .returned (.tuple #[.int .i32 (oneF l).1, .int .i64 (oneF l).2]) ∧ Below w.heap.size w w'

theorem nb_at (s : ByteArray) (p i : Nat) (h : p + i < s.size) : ((s[p + i]'h).toNat : Int) = nb (s.data.toList.drop p) i := by
  unfold nb
  rw [← get!_drop]
  show _ = ((s.data[p + i]!).toNat : Int)
  rw [getElem!_pos s.data (p + i) h]
  rfl

theorem w64 (z : Int) (h0 : -1000000000000 ≤ z) (h1 : z ≤ 1000000000000) : wrap64 z = z := by unfold wrap64; omega

theorem refMay_is (r : Int) (b : Bool) (h : Lib.validRune r = b) (w : World) : Calls Tryd.prog 79 #[.int .i32 r] w fun e w' => e = .returned (.bool b) ∧ w = w' := by
  subst h; exact refMay_any r w

theorem wrap_i32 (V : Int) (h0 : 0 ≤ V) (h1 : V ≤ 1114111) : IntKind.i32.wrap V = V := by
  unfold IntKind.wrap
  simp [IntKind.bits, IntKind.signed]
  omega

theorem oneF_found {l : List UInt8} {j m : Nat} (hm : mayF m = true) (hj : j ≤ l.length) (h : l.take j = encF m) : oneF l = (m, j) := by unfold oneF; rw [dec_found hm hj h]
theorem oneF_some {l : List UInt8} {p : Nat × Nat} (h : decF l = some p) : oneF l = p := by unfold oneF; rw [h]
theorem oneF_none {l : List UInt8} (h : decF l = none) : oneF l = (0, 0) := by unfold oneF; rw [h]

theorem str_ne {x y : ByteArray} (h : x ≠ y) : (x.toList == y.toList) = false := by
  rw [beq_eq_false_iff_ne]
  intro e
  rw [Lib.toList_data, Lib.toList_data] at e
  exact h (ByteArray.ext (Array.toList_inj.1 e))

theorem refBytes_z (V : Int) (m : Nat) (h : V = (m : Int)) (hm : mayF m = true) (w : World) : Calls Tryd.prog 80 #[.int .i32 V] w (Made w (encF m)) := by
  subst h; exact refBytes_any m (mayF_lt hm) w

set_option maxRecDepth 100000 in
set_option maxHeartbeats 8000000 in
theorem one_any (s : ByteArray) (p : Nat) (w : World) (hs : s.size ≤ 9223372036854775807) (hp : p < s.size) :
    Calls Tryd.prog 56 #[.string s, .int .i64 (p : Int)] w (OneIs (s.data.toList.drop p) w) := by
  obtain ⟨l, hl⟩ : ∃ l, l = s.data.toList.drop p := ⟨_, rfl⟩
  have hlen : l.length = s.size - p := by rw [hl]; simp
  have HL := Lib.hid hl
  have HN := Lib.hid hlen
  rw [← hl]
  have hpI : (p : Int) < (s.size : Int) := by omega
  have hNT := Lib.hid (noneTo_one l)
  have HP := Lib.hid hp
  have hsI : (s.size : Int) ≤ 9223372036854775807 := by omega
  have HS := Lib.hid hs
  clear hl hlen hp hs
  go_enter Tryd.func56, Tryd.ntmps56
  go_wp2
  go_loopg [6, 7] 4 (fun g v6 v7 W => ∃ j : Nat, Below w.heap.size w W ∧ g + j = 5 ∧ 1 ≤ j ∧ v6 = .int .i64 j ∧ Hid (NoneTo l j))
  case atStart => exact ⟨1, Below.refl _ _, rfl, by omega, rfl, hNT⟩
  case round =>
    obtain ⟨j, hbw, hg, hj1, rfl, hno⟩ := hrel
    have HG := Lib.hid hg
    by_cases hj : j ≤ 4 ∧ j ≤ s.size - p
    · have hjI : (j : Int) ≤ 4 := by omega
      have hjI2 : (j : Int) ≤ (s.size : Int) - (p : Int) := by have := HP.out; omega
      have HJ := Lib.hid hj
      have hcase : j = 1 ∨ j = 2 ∨ j = 3 ∨ j = 4 := by omega
      clear hg hj
      rcases hcase with rfl | rfl | rfl | rfl
      · have i0 : p < s.size := HP.out
        have hbw' := hbw
        clear hbw
        go_upto_region 14 with (fail)
        have r0 := nb_range l 0
        simp only [show (s[p].toNat : Int) = nb l 0 from by rw [HL.out]; exact nb_at s p 0 i0]
        simp only [w64 (nb l 0) (by omega) (by omega)]
        have hV : -100000000 ≤ vOf 1 l ∧ vOf 1 l ≤ 100000000 := by show -100000000 ≤ nb l 0 ∧ nb l 0 ≤ 100000000; omega
        rw [show nb l 0 = vOf 1 l from rfl]
        clear r0
        have hV0 := hV.1
        have hV1 := hV.2
        clear hV
        obtain ⟨V, hVV⟩ : ∃ V, vOf 1 l = V := ⟨_, rfl⟩
        rw [hVV] at hV0 hV1 ⊢
        have HV := Lib.hid hVV
        clear hVV
        by_cases hval : Lib.validRune V = true
        · obtain ⟨m, hm, hmay⟩ := valid_of _ hval
          have HM := Lib.hid hm
          have g0 : 0 ≤ V := by omega
          have g1 : V ≤ 1114111 := by have := mayF_lt hmay; omega
          have HY := Lib.hid hmay
          have HA := Lib.hid hval
          clear hm hmay hval hV0 hV1
          go_wp2_with (go_at_call 79; go_must (refine (refMay_is _ true HA.out _).mono ?_); rintro e w1 ⟨rfl, rfl⟩)
          have q1 : IntKind.i64.wrap ((p : Int) + 1) = (p : Int) + 1 := IntWalk.i64_in _ (by omega)
          have q2 : 0 ≤ (p : Int) + 1 := by omega
          have q3 : ((p : Int) + 1).toNat = p + 1 := by omega
          have q4 : (p : Int) + 1 ≤ (s.size : Int) := by omega
          have q5 : p + 1 ≤ s.size := by omega
          have q6 : (p : Int) ≤ (p : Int) + 1 := by omega
          have q7 : IntKind.i32.wrap V = V := wrap_i32 V g0 g1
          by_cases heq : l.take 1 = encF m
          · have hx : s.extract p (p + 1) = strB (encF m) := by rw [extract_list, ← HL.out, ← heq]; congr 2; omega
            have HE := Lib.hid heq
            clear heq
            go_region_held (fun _ => True) (trivial) ((go_at_call 80; go_must (refine (refBytes_z V m HM.out HY.out _).mono ?_); rintro e w2 ⟨a2, n2, c2, rfl, ho2, hb2⟩; have hs2 := run_str ho2.isBytes; clear ho2))
            clear hs2 hx
            go_wp2
            go_ret2
            exact ⟨by rw [oneF_found HY.out (by have := HN.out; omega) HE.out, HM.out]; rfl, (hbw'.drew).trans (hb2.mono hbw'.size)⟩
          · have hx : s.extract p (p + 1) = strB (l.take 1) := by rw [extract_list, ← HL.out]; congr 2; omega
            have hb1 := str_ne (show strB (encF m) ≠ strB (l.take 1) from fun h => heq (strB_inj h).symm)
            have HE := Lib.hid heq
            clear heq
            go_region_held (fun _ => True) (trivial) ((go_at_call 80; go_must (refine (refBytes_z V m HM.out HY.out _).mono ?_); rintro e w2 ⟨a2, n2, c2, rfl, ho2, hb2⟩; have hs2 := run_str ho2.isBytes; clear ho2))
            clear hs2 hx hb1
            go_wp2
            go_roundg (gk - 1)
            case measure => have := HG.out; omega
            case rel => exact ⟨2, (hbw'.drew).trans (hb2.mono hbw'.size), by have := HG.out; omega, by omega, rfl, Lib.hid (hno.out.ne (HV.out.trans HM.out) HE.out)⟩
        · have HA := Lib.hid (show Lib.validRune V = false by simpa using hval)
          clear hval
          by_cases v1 : V < 0
          · go_wp2
            go_roundg (gk - 1)
            case measure => have := HG.out; omega
            case rel => exact ⟨2, hbw', by have := HG.out; omega, by omega, rfl, Lib.hid (hno.out.bad (by rw [HV.out]; exact HA.out))⟩
          · by_cases v2 : 1114111 < V
            · go_wp2
              go_roundg (gk - 1)
              case measure => have := HG.out; omega
              case rel => exact ⟨2, hbw', by have := HG.out; omega, by omega, rfl, Lib.hid (hno.out.bad (by rw [HV.out]; exact HA.out))⟩
            · have v3 : 0 ≤ V := by omega
              have v4 : V ≤ 1114111 := by omega
              clear v1 v2
              go_wp2_with (go_at_call 79; go_must (refine (refMay_is _ false HA.out _).mono ?_); rintro e w1 ⟨rfl, rfl⟩)
              go_roundg (gk - 1)
              case measure => have := HG.out; omega
              case rel => exact ⟨2, hbw', by have := HG.out; omega, by omega, rfl, Lib.hid (hno.out.bad (by rw [HV.out]; exact HA.out))⟩
      · have i0 : p < s.size := HP.out
        have i1 : p + 1 < s.size := by omega
        have c1 : (p : Int) + 1 < (s.size : Int) := by omega
        have k1 : IntKind.i64.wrap ((p : Int) + 1) = (p : Int) + 1 := IntWalk.i64_in _ (by omega)
        have z1 : 0 ≤ (p : Int) + 1 := by omega
        have t1 : ((p : Int) + 1).toNat = p + 1 := by omega
        go_wp2
        go_quiet (fail)
        have hbw' : Below w.heap.size w (wr.drewN nq) := Go.below_drewN hbw nq
        generalize wr.drewN nq = wq at hbw' ⊢
        clear hbw
        go_upto_region 14 with (fail)
        have r0 := nb_range l 0
        have r1 := nb_range l 1
        simp only [show (s[p].toNat : Int) = nb l 0 from by rw [HL.out]; exact nb_at s p 0 i0, show (s[p + 1].toNat : Int) = nb l 1 from by rw [HL.out]; exact nb_at s p 1 i1]
        simp only [w64 (nb l 0) (by omega) (by omega), w64 (nb l 1) (by omega) (by omega), w64 (nb l 0 - 192) (by omega) (by omega), w64 ((nb l 0 - 192) * 64) (by omega) (by omega), w64 ((nb l 0 - 192) * 64 + nb l 1) (by omega) (by omega), w64 ((nb l 0 - 192) * 64 + nb l 1 - 128) (by omega) (by omega)]
        have hV : -100000000 ≤ vOf 2 l ∧ vOf 2 l ≤ 100000000 := by show -100000000 ≤ (nb l 0 - 192) * 64 + nb l 1 - 128 ∧ (nb l 0 - 192) * 64 + nb l 1 - 128 ≤ 100000000; omega
        rw [show (nb l 0 - 192) * 64 + nb l 1 - 128 = vOf 2 l from rfl]
        clear r0 r1
        have hV0 := hV.1
        have hV1 := hV.2
        clear hV
        obtain ⟨V, hVV⟩ : ∃ V, vOf 2 l = V := ⟨_, rfl⟩
        rw [hVV] at hV0 hV1 ⊢
        have HV := Lib.hid hVV
        clear hVV
        by_cases hval : Lib.validRune V = true
        · obtain ⟨m, hm, hmay⟩ := valid_of _ hval
          have HM := Lib.hid hm
          have g0 : 0 ≤ V := by omega
          have g1 : V ≤ 1114111 := by have := mayF_lt hmay; omega
          have HY := Lib.hid hmay
          have HA := Lib.hid hval
          clear hm hmay hval hV0 hV1
          go_wp2_with (go_at_call 79; go_must (refine (refMay_is _ true HA.out _).mono ?_); rintro e w1 ⟨rfl, rfl⟩)
          have q1 : IntKind.i64.wrap ((p : Int) + 2) = (p : Int) + 2 := IntWalk.i64_in _ (by omega)
          have q2 : 0 ≤ (p : Int) + 2 := by omega
          have q3 : ((p : Int) + 2).toNat = p + 2 := by omega
          have q4 : (p : Int) + 2 ≤ (s.size : Int) := by omega
          have q5 : p + 2 ≤ s.size := by omega
          have q6 : (p : Int) ≤ (p : Int) + 2 := by omega
          have q7 : IntKind.i32.wrap V = V := wrap_i32 V g0 g1
          by_cases heq : l.take 2 = encF m
          · have hx : s.extract p (p + 2) = strB (encF m) := by rw [extract_list, ← HL.out, ← heq]; congr 2; omega
            have HE := Lib.hid heq
            clear heq
            go_region_held (fun _ => True) (trivial) ((go_at_call 80; go_must (refine (refBytes_z V m HM.out HY.out _).mono ?_); rintro e w2 ⟨a2, n2, c2, rfl, ho2, hb2⟩; have hs2 := run_str ho2.isBytes; clear ho2))
            clear hs2 hx
            go_wp2
            go_ret2
            exact ⟨by rw [oneF_found HY.out (by have := HN.out; omega) HE.out, HM.out]; rfl, (hbw'.drew).trans (hb2.mono hbw'.size)⟩
          · have hx : s.extract p (p + 2) = strB (l.take 2) := by rw [extract_list, ← HL.out]; congr 2; omega
            have hb1 := str_ne (show strB (encF m) ≠ strB (l.take 2) from fun h => heq (strB_inj h).symm)
            have HE := Lib.hid heq
            clear heq
            go_region_held (fun _ => True) (trivial) ((go_at_call 80; go_must (refine (refBytes_z V m HM.out HY.out _).mono ?_); rintro e w2 ⟨a2, n2, c2, rfl, ho2, hb2⟩; have hs2 := run_str ho2.isBytes; clear ho2))
            clear hs2 hx hb1
            go_wp2
            go_roundg (gk - 1)
            case measure => have := HG.out; omega
            case rel => exact ⟨3, (hbw'.drew).trans (hb2.mono hbw'.size), by have := HG.out; omega, by omega, rfl, Lib.hid (hno.out.ne (HV.out.trans HM.out) HE.out)⟩
        · have HA := Lib.hid (show Lib.validRune V = false by simpa using hval)
          clear hval
          by_cases v1 : V < 0
          · go_wp2
            go_roundg (gk - 1)
            case measure => have := HG.out; omega
            case rel => exact ⟨3, hbw', by have := HG.out; omega, by omega, rfl, Lib.hid (hno.out.bad (by rw [HV.out]; exact HA.out))⟩
          · by_cases v2 : 1114111 < V
            · go_wp2
              go_roundg (gk - 1)
              case measure => have := HG.out; omega
              case rel => exact ⟨3, hbw', by have := HG.out; omega, by omega, rfl, Lib.hid (hno.out.bad (by rw [HV.out]; exact HA.out))⟩
            · have v3 : 0 ≤ V := by omega
              have v4 : V ≤ 1114111 := by omega
              clear v1 v2
              go_wp2_with (go_at_call 79; go_must (refine (refMay_is _ false HA.out _).mono ?_); rintro e w1 ⟨rfl, rfl⟩)
              go_roundg (gk - 1)
              case measure => have := HG.out; omega
              case rel => exact ⟨3, hbw', by have := HG.out; omega, by omega, rfl, Lib.hid (hno.out.bad (by rw [HV.out]; exact HA.out))⟩
      · have i0 : p < s.size := HP.out
        have i1 : p + 1 < s.size := by omega
        have c1 : (p : Int) + 1 < (s.size : Int) := by omega
        have k1 : IntKind.i64.wrap ((p : Int) + 1) = (p : Int) + 1 := IntWalk.i64_in _ (by omega)
        have z1 : 0 ≤ (p : Int) + 1 := by omega
        have t1 : ((p : Int) + 1).toNat = p + 1 := by omega
        have i2 : p + 2 < s.size := by omega
        have c2 : (p : Int) + 2 < (s.size : Int) := by omega
        have k2 : IntKind.i64.wrap ((p : Int) + 2) = (p : Int) + 2 := IntWalk.i64_in _ (by omega)
        have z2 : 0 ≤ (p : Int) + 2 := by omega
        have t2 : ((p : Int) + 2).toNat = p + 2 := by omega
        go_wp2
        go_quiet (fail)
        have hbw' : Below w.heap.size w (wr.drewN nq) := Go.below_drewN hbw nq
        generalize wr.drewN nq = wq at hbw' ⊢
        clear hbw
        go_upto_region 14 with (fail)
        have r0 := nb_range l 0
        have r1 := nb_range l 1
        have r2 := nb_range l 2
        simp only [show (s[p].toNat : Int) = nb l 0 from by rw [HL.out]; exact nb_at s p 0 i0, show (s[p + 1].toNat : Int) = nb l 1 from by rw [HL.out]; exact nb_at s p 1 i1, show (s[p + 2].toNat : Int) = nb l 2 from by rw [HL.out]; exact nb_at s p 2 i2]
        simp only [w64 (nb l 0) (by omega) (by omega), w64 (nb l 1) (by omega) (by omega), w64 (nb l 2) (by omega) (by omega), w64 (nb l 0 - 224) (by omega) (by omega), w64 ((nb l 0 - 224) * 4096) (by omega) (by omega), w64 (nb l 1 - 128) (by omega) (by omega), w64 ((nb l 1 - 128) * 64) (by omega) (by omega), w64 ((nb l 0 - 224) * 4096 + (nb l 1 - 128) * 64) (by omega) (by omega), w64 ((nb l 0 - 224) * 4096 + (nb l 1 - 128) * 64 + nb l 2) (by omega) (by omega), w64 ((nb l 0 - 224) * 4096 + (nb l 1 - 128) * 64 + nb l 2 - 128) (by omega) (by omega)]
        have hV : -100000000 ≤ vOf 3 l ∧ vOf 3 l ≤ 100000000 := by show -100000000 ≤ (nb l 0 - 224) * 4096 + (nb l 1 - 128) * 64 + nb l 2 - 128 ∧ (nb l 0 - 224) * 4096 + (nb l 1 - 128) * 64 + nb l 2 - 128 ≤ 100000000; omega
        rw [show (nb l 0 - 224) * 4096 + (nb l 1 - 128) * 64 + nb l 2 - 128 = vOf 3 l from rfl]
        clear r0 r1 r2
        have hV0 := hV.1
        have hV1 := hV.2
        clear hV
        obtain ⟨V, hVV⟩ : ∃ V, vOf 3 l = V := ⟨_, rfl⟩
        rw [hVV] at hV0 hV1 ⊢
        have HV := Lib.hid hVV
        clear hVV
        by_cases hval : Lib.validRune V = true
        · obtain ⟨m, hm, hmay⟩ := valid_of _ hval
          have HM := Lib.hid hm
          have g0 : 0 ≤ V := by omega
          have g1 : V ≤ 1114111 := by have := mayF_lt hmay; omega
          have HY := Lib.hid hmay
          have HA := Lib.hid hval
          clear hm hmay hval hV0 hV1
          go_wp2_with (go_at_call 79; go_must (refine (refMay_is _ true HA.out _).mono ?_); rintro e w1 ⟨rfl, rfl⟩)
          have q1 : IntKind.i64.wrap ((p : Int) + 3) = (p : Int) + 3 := IntWalk.i64_in _ (by omega)
          have q2 : 0 ≤ (p : Int) + 3 := by omega
          have q3 : ((p : Int) + 3).toNat = p + 3 := by omega
          have q4 : (p : Int) + 3 ≤ (s.size : Int) := by omega
          have q5 : p + 3 ≤ s.size := by omega
          have q6 : (p : Int) ≤ (p : Int) + 3 := by omega
          have q7 : IntKind.i32.wrap V = V := wrap_i32 V g0 g1
          by_cases heq : l.take 3 = encF m
          · have hx : s.extract p (p + 3) = strB (encF m) := by rw [extract_list, ← HL.out, ← heq]; congr 2; omega
            have HE := Lib.hid heq
            clear heq
            go_region_held (fun _ => True) (trivial) ((go_at_call 80; go_must (refine (refBytes_z V m HM.out HY.out _).mono ?_); rintro e w2 ⟨a2, n2, c2, rfl, ho2, hb2⟩; have hs2 := run_str ho2.isBytes; clear ho2))
            clear hs2 hx
            go_wp2
            go_ret2
            exact ⟨by rw [oneF_found HY.out (by have := HN.out; omega) HE.out, HM.out]; rfl, (hbw'.drew).trans (hb2.mono hbw'.size)⟩
          · have hx : s.extract p (p + 3) = strB (l.take 3) := by rw [extract_list, ← HL.out]; congr 2; omega
            have hb1 := str_ne (show strB (encF m) ≠ strB (l.take 3) from fun h => heq (strB_inj h).symm)
            have HE := Lib.hid heq
            clear heq
            go_region_held (fun _ => True) (trivial) ((go_at_call 80; go_must (refine (refBytes_z V m HM.out HY.out _).mono ?_); rintro e w2 ⟨a2, n2, c2, rfl, ho2, hb2⟩; have hs2 := run_str ho2.isBytes; clear ho2))
            clear hs2 hx hb1
            go_wp2
            go_roundg (gk - 1)
            case measure => have := HG.out; omega
            case rel => exact ⟨4, (hbw'.drew).trans (hb2.mono hbw'.size), by have := HG.out; omega, by omega, rfl, Lib.hid (hno.out.ne (HV.out.trans HM.out) HE.out)⟩
        · have HA := Lib.hid (show Lib.validRune V = false by simpa using hval)
          clear hval
          by_cases v1 : V < 0
          · go_wp2
            go_roundg (gk - 1)
            case measure => have := HG.out; omega
            case rel => exact ⟨4, hbw', by have := HG.out; omega, by omega, rfl, Lib.hid (hno.out.bad (by rw [HV.out]; exact HA.out))⟩
          · by_cases v2 : 1114111 < V
            · go_wp2
              go_roundg (gk - 1)
              case measure => have := HG.out; omega
              case rel => exact ⟨4, hbw', by have := HG.out; omega, by omega, rfl, Lib.hid (hno.out.bad (by rw [HV.out]; exact HA.out))⟩
            · have v3 : 0 ≤ V := by omega
              have v4 : V ≤ 1114111 := by omega
              clear v1 v2
              go_wp2_with (go_at_call 79; go_must (refine (refMay_is _ false HA.out _).mono ?_); rintro e w1 ⟨rfl, rfl⟩)
              go_roundg (gk - 1)
              case measure => have := HG.out; omega
              case rel => exact ⟨4, hbw', by have := HG.out; omega, by omega, rfl, Lib.hid (hno.out.bad (by rw [HV.out]; exact HA.out))⟩
      · have i0 : p < s.size := HP.out
        have i1 : p + 1 < s.size := by omega
        have c1 : (p : Int) + 1 < (s.size : Int) := by omega
        have k1 : IntKind.i64.wrap ((p : Int) + 1) = (p : Int) + 1 := IntWalk.i64_in _ (by omega)
        have z1 : 0 ≤ (p : Int) + 1 := by omega
        have t1 : ((p : Int) + 1).toNat = p + 1 := by omega
        have i2 : p + 2 < s.size := by omega
        have c2 : (p : Int) + 2 < (s.size : Int) := by omega
        have k2 : IntKind.i64.wrap ((p : Int) + 2) = (p : Int) + 2 := IntWalk.i64_in _ (by omega)
        have z2 : 0 ≤ (p : Int) + 2 := by omega
        have t2 : ((p : Int) + 2).toNat = p + 2 := by omega
        have i3 : p + 3 < s.size := by omega
        have c3 : (p : Int) + 3 < (s.size : Int) := by omega
        have k3 : IntKind.i64.wrap ((p : Int) + 3) = (p : Int) + 3 := IntWalk.i64_in _ (by omega)
        have z3 : 0 ≤ (p : Int) + 3 := by omega
        have t3 : ((p : Int) + 3).toNat = p + 3 := by omega
        go_wp2
        go_quiet (fail)
        have hbw' : Below w.heap.size w (wr.drewN nq) := Go.below_drewN hbw nq
        generalize wr.drewN nq = wq at hbw' ⊢
        clear hbw
        go_upto_region 14 with (fail)
        have r0 := nb_range l 0
        have r1 := nb_range l 1
        have r2 := nb_range l 2
        have r3 := nb_range l 3
        simp only [show (s[p].toNat : Int) = nb l 0 from by rw [HL.out]; exact nb_at s p 0 i0, show (s[p + 1].toNat : Int) = nb l 1 from by rw [HL.out]; exact nb_at s p 1 i1, show (s[p + 2].toNat : Int) = nb l 2 from by rw [HL.out]; exact nb_at s p 2 i2, show (s[p + 3].toNat : Int) = nb l 3 from by rw [HL.out]; exact nb_at s p 3 i3]
        simp only [w64 (nb l 0) (by omega) (by omega), w64 (nb l 1) (by omega) (by omega), w64 (nb l 2) (by omega) (by omega), w64 (nb l 3) (by omega) (by omega), w64 (nb l 0 - 240) (by omega) (by omega), w64 ((nb l 0 - 240) * 262144) (by omega) (by omega), w64 (nb l 1 - 128) (by omega) (by omega), w64 ((nb l 1 - 128) * 4096) (by omega) (by omega), w64 (nb l 2 - 128) (by omega) (by omega), w64 ((nb l 2 - 128) * 64) (by omega) (by omega), w64 ((nb l 0 - 240) * 262144 + (nb l 1 - 128) * 4096) (by omega) (by omega), w64 ((nb l 0 - 240) * 262144 + (nb l 1 - 128) * 4096 + (nb l 2 - 128) * 64) (by omega) (by omega), w64 ((nb l 0 - 240) * 262144 + (nb l 1 - 128) * 4096 + (nb l 2 - 128) * 64 + nb l 3) (by omega) (by omega), w64 ((nb l 0 - 240) * 262144 + (nb l 1 - 128) * 4096 + (nb l 2 - 128) * 64 + nb l 3 - 128) (by omega) (by omega)]
        have hV : -100000000 ≤ vOf 4 l ∧ vOf 4 l ≤ 100000000 := by show -100000000 ≤ (nb l 0 - 240) * 262144 + (nb l 1 - 128) * 4096 + (nb l 2 - 128) * 64 + nb l 3 - 128 ∧ (nb l 0 - 240) * 262144 + (nb l 1 - 128) * 4096 + (nb l 2 - 128) * 64 + nb l 3 - 128 ≤ 100000000; omega
        rw [show (nb l 0 - 240) * 262144 + (nb l 1 - 128) * 4096 + (nb l 2 - 128) * 64 + nb l 3 - 128 = vOf 4 l from rfl]
        clear r0 r1 r2 r3
        have hV0 := hV.1
        have hV1 := hV.2
        clear hV
        obtain ⟨V, hVV⟩ : ∃ V, vOf 4 l = V := ⟨_, rfl⟩
        rw [hVV] at hV0 hV1 ⊢
        have HV := Lib.hid hVV
        clear hVV
        by_cases hval : Lib.validRune V = true
        · obtain ⟨m, hm, hmay⟩ := valid_of _ hval
          have HM := Lib.hid hm
          have g0 : 0 ≤ V := by omega
          have g1 : V ≤ 1114111 := by have := mayF_lt hmay; omega
          have HY := Lib.hid hmay
          have HA := Lib.hid hval
          clear hm hmay hval hV0 hV1
          go_wp2_with (go_at_call 79; go_must (refine (refMay_is _ true HA.out _).mono ?_); rintro e w1 ⟨rfl, rfl⟩)
          have q1 : IntKind.i64.wrap ((p : Int) + 4) = (p : Int) + 4 := IntWalk.i64_in _ (by omega)
          have q2 : 0 ≤ (p : Int) + 4 := by omega
          have q3 : ((p : Int) + 4).toNat = p + 4 := by omega
          have q4 : (p : Int) + 4 ≤ (s.size : Int) := by omega
          have q5 : p + 4 ≤ s.size := by omega
          have q6 : (p : Int) ≤ (p : Int) + 4 := by omega
          have q7 : IntKind.i32.wrap V = V := wrap_i32 V g0 g1
          by_cases heq : l.take 4 = encF m
          · have hx : s.extract p (p + 4) = strB (encF m) := by rw [extract_list, ← HL.out, ← heq]; congr 2; omega
            have HE := Lib.hid heq
            clear heq
            go_region_held (fun _ => True) (trivial) ((go_at_call 80; go_must (refine (refBytes_z V m HM.out HY.out _).mono ?_); rintro e w2 ⟨a2, n2, c2, rfl, ho2, hb2⟩; have hs2 := run_str ho2.isBytes; clear ho2))
            clear hs2 hx
            go_wp2
            go_ret2
            exact ⟨by rw [oneF_found HY.out (by have := HN.out; omega) HE.out, HM.out]; rfl, (hbw'.drew).trans (hb2.mono hbw'.size)⟩
          · have hx : s.extract p (p + 4) = strB (l.take 4) := by rw [extract_list, ← HL.out]; congr 2; omega
            have hb1 := str_ne (show strB (encF m) ≠ strB (l.take 4) from fun h => heq (strB_inj h).symm)
            have HE := Lib.hid heq
            clear heq
            go_region_held (fun _ => True) (trivial) ((go_at_call 80; go_must (refine (refBytes_z V m HM.out HY.out _).mono ?_); rintro e w2 ⟨a2, n2, c2, rfl, ho2, hb2⟩; have hs2 := run_str ho2.isBytes; clear ho2))
            clear hs2 hx hb1
            go_wp2
            go_roundg (gk - 1)
            case measure => have := HG.out; omega
            case rel => exact ⟨5, (hbw'.drew).trans (hb2.mono hbw'.size), by have := HG.out; omega, by omega, rfl, Lib.hid (hno.out.ne (HV.out.trans HM.out) HE.out)⟩
        · have HA := Lib.hid (show Lib.validRune V = false by simpa using hval)
          clear hval
          by_cases v1 : V < 0
          · go_wp2
            go_roundg (gk - 1)
            case measure => have := HG.out; omega
            case rel => exact ⟨5, hbw', by have := HG.out; omega, by omega, rfl, Lib.hid (hno.out.bad (by rw [HV.out]; exact HA.out))⟩
          · by_cases v2 : 1114111 < V
            · go_wp2
              go_roundg (gk - 1)
              case measure => have := HG.out; omega
              case rel => exact ⟨5, hbw', by have := HG.out; omega, by omega, rfl, Lib.hid (hno.out.bad (by rw [HV.out]; exact HA.out))⟩
            · have v3 : 0 ≤ V := by omega
              have v4 : V ≤ 1114111 := by omega
              clear v1 v2
              go_wp2_with (go_at_call 79; go_must (refine (refMay_is _ false HA.out _).mono ?_); rintro e w1 ⟨rfl, rfl⟩)
              go_roundg (gk - 1)
              case measure => have := HG.out; omega
              case rel => exact ⟨5, hbw', by have := HG.out; omega, by omega, rfl, Lib.hid (hno.out.bad (by rw [HV.out]; exact HA.out))⟩
    · have HE := Lib.hid (hno.out.end (show j = 5 ∨ l.length < j by have := HN.out; have := HG.out; omega))
      by_cases hj4 : (j : Int) ≤ 4
      · have hjn : ¬ (j : Int) ≤ (s.size : Int) - (p : Int) := by have := HP.out; omega
        clear hg hj hj1
        go_wp2
        go_ret2
        exact ⟨by rw [oneF_none HE.out]; rfl, hbw⟩
      · clear hg hj hj1
        go_wp2
        go_ret2
        exact ⟨by rw [oneF_none HE.out]; rfl, hbw⟩
#print axioms one_any
end Go.Proofs.YtfoalaoanpbmeaaDoor
