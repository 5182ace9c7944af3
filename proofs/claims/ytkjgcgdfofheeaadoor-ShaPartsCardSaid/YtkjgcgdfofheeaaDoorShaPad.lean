/-
  The walks of the document's own padded and key.
-/
import Derived.Test.YtkjgcgdfofheeaaDoorShaSumM
import Derived.Test.YtkjgcgdfofheeaaDoorCopy
import Derived.Deep.LoopGhost
namespace Go.Proofs.YtkjgcgdfofheeaaDoor
open Go.RowKit

theorem pad_next (l : List UInt8) (j : Nat) : (l ++ 128 :: List.replicate j 0) ++ [0] = l ++ 128 :: List.replicate (j + 1) 0 := by
  rw [List.append_assoc, List.cons_append, List.replicate_succ']

theorem pad_mod (L j z : Nat) (hz : z = zerosF L) (hj : j < z) : ¬ ((L + 1 + j : Nat) : Int) % 64 = 56 := by
  unfold zerosF at hz
  split at hz <;> omega
theorem pad_mod_end (L z : Nat) (hz : z = zerosF L) : ((L + 1 + z : Nat) : Int) % 64 = 56 := by
  unfold zerosF at hz
  split at hz <;> omega

set_option maxRecDepth 100000 in
set_option maxHeartbeats 400000 in
theorem padded_any (a : Option Addr) (n c : Nat) (l : List UInt8) (w : World) (hb : Bytes w a n c l) (hl : l.length ≤ 1000000) :
    Calls Tryd.prog 16 #[.slice a n c] w (Made w (padF l)) := by
  have hbel : Below w.heap.size w (w.alloc (.cells #[] 5)) := (Below.refl _ _).alloc (Nat.le_refl _) _
  have HO := Lib.hid (own_empty w)
  have HB := Lib.hid (hb.below hbel)
  have HBL := Lib.hid hbel
  have hn := hb.1
  have hnm : n ≤ 1000000 := by omega
  have HN := Lib.hid hn
  obtain ⟨z, hz⟩ : ∃ z, z = zerosF l.length := ⟨_, rfl⟩
  have hz64 : z ≤ 64 := by rw [hz]; unfold zerosF; split <;> omega
  have HZ := Lib.hid hz
  clear hbel hb hn hz
  go_enter Tryd.func16, Tryd.ntmps16
  go_wp2_with (first
    | ((with_reducible show wpList _ _ _ (⟨some 8, _, _, _, _, _⟩ :: _) _ _); go_must (refine app_bytes rfl (.tmp 6) (.tmp 7) rfl w.heap.size _ [] rfl HO.out a n c l rfl HB.out (by simp; omega) (by simp) ?_); intro v1 w1 hown1 hgr1; have hb1 := HBL.out.grown hgr1 (by simp) HO.out.grown)
    | ((with_reducible show wpList _ _ _ (⟨some 11, _, _, _, _, _⟩ :: _) _ _); go_must (refine app_bytes rfl (.tmp 9) (.tmp 10) rfl w.heap.size _ _ rfl (hown1.alloc _) (some ⟨w1.heap.size, 0, none⟩) 1 1 [128] rfl (bytes_one _ 128) (by have := HN.out; simp; omega) (by have := hb1.size; simp; omega) ?_); intro v2 w2 hown2 hgr2; have hb2 := (hb1.alloc hb1.size (.cells #[.int .u8 (((128 : UInt8).toNat : Nat) : Int)] 5)).grown hgr2 (by have := hb1.size; simp; omega) hown1.grown))
  go_loopg [3] z (fun gh v3 W => ∃ j : Nat, gh + j = z ∧ Own W w.heap.size v3 (l ++ 128 :: List.replicate j 0) ∧ Below w.heap.size w W)
  case atStart => exact ⟨0, rfl, by simpa using hown2, hb2⟩
  case round =>
    obtain ⟨j, hg, hown, hbel⟩ := hrel
    have HG := Lib.hid hg
    have hjz : j ≤ z := by omega
    clear hg hown1 hgr1 hb1 hown2 hgr2 hb2
    obtain ⟨a', n', c', rfl, hby⟩ := hown.bytes
    have hnn : n' = l.length + 1 + j := by have := hby.1; simp at this; omega
    clear hby
    subst hnn
    by_cases hj : j < z
    · have hm := pad_mod l.length j z HZ.out hj
      go_wp2_with ((with_reducible show wpList _ _ _ (⟨some 18, _, _, _, _, _⟩ :: _) _ _); go_must (refine app_bytes rfl (.tmp 16) (.tmp 17) rfl w.heap.size _ _ rfl (hown.alloc _) (some ⟨wr.heap.size, 0, none⟩) 1 1 [0] rfl (bytes_one _ 0) (by have := HN.out; simp; omega) (by have := hbel.size; simp; omega) ?_); intro v4 w4 hown4 hgr4)
      go_roundg (gk - 1)
      case measure => have := HG.out; omega
      case rel => exact ⟨j + 1, by have := HG.out; omega, by rw [← pad_next]; exact hown4, (hbel.alloc hbel.size _).grown hgr4 (by have := hbel.size; simp; omega) hown.grown⟩
    · obtain rfl : j = z := by omega
      have hm := pad_mod_end l.length j HZ.out
      have hne : ((((l.length : Nat) : Int) + 1 + (j : Int)) % 64 != 56) = false := by simp; omega
      clear hm
      go_wp2
      go_loopg [3, 5] 8 (fun gh v3 v5 W => ∃ i : Nat, gh + i = 8 ∧ v5 = .int .i64 i ∧ Own W w.heap.size v3 (l ++ 128 :: (List.replicate j 0 ++ lenB l.length i)) ∧ Below w.heap.size w W)
      case atStart => exact ⟨0, rfl, rfl, by simpa [lenB] using hown, hbel⟩
      case round =>
        obtain ⟨i, hg, rfl, hown, hbel⟩ := hrel
        have HG := Lib.hid hg
        have hi8 : i ≤ 8 := by omega
        clear hg hne
        by_cases hi : i < 8
        · have hBF := Lib.hid (show (n : Int) * 8 / 2 ^ (56 - 8 * i) % 256 = ((UInt8.ofNat (l.length * 8 / 2 ^ (8 * (7 - i)) % 256)).toNat : Int) by
            rw [show 56 - 8 * i = 8 * (7 - i) from by omega, ← HN.out]; exact byte_form l.length i)
          go_wp2_with ((with_reducible show wpList _ _ _ (⟨some 36, _, _, _, _, _⟩ :: _) _ _); go_must (refine app_bytes rfl (.tmp 27) (.tmp 35) rfl w.heap.size _ _ rfl (hown.alloc _) (some ⟨wr.heap.size, 0, none⟩) 1 1 [UInt8.ofNat (l.length * 8 / 2 ^ (8 * (7 - i)) % 256)] rfl (by rw [hBF.out]; exact bytes_one _ _) (by have := HN.out; simp [lenB]; omega) (by have := hbel.size; simp; omega) ?_); intro v5 w5 hown5 hgr5)
          go_roundg (gk - 1)
          case measure => have := HG.out; omega
          case rel =>
            refine ⟨i + 1, by have := HG.out; omega, by go_num, ?_, (hbel.alloc hbel.size _).grown hgr5 (by have := hbel.size; simp; omega) hown.grown⟩
            rw [lenB_next, ← List.append_assoc, ← List.cons_append, ← List.append_assoc]
            exact hown5
        · obtain rfl : i = 8 := by omega
          go_wp2
          go_ret
          exact Made.of (by unfold padF endF; rw [← HZ.out]; exact hown) hbel
#print axioms padded_any
theorem key_build (w : World) : (Instr.build 42 #[(0, .int .u32 1116352408), (1, .int .u32 1899447441), (2, .int .u32 3049323471), (3, .int .u32 3921009573), (4, .int .u32 961987163), (5, .int .u32 1508970993), (6, .int .u32 2453635748), (7, .int .u32 2870763221), (8, .int .u32 3624381080), (9, .int .u32 310598401), (10, .int .u32 607225278), (11, .int .u32 1426881987), (12, .int .u32 1925078388), (13, .int .u32 2162078206), (14, .int .u32 2614888103), (15, .int .u32 3248222580), (16, .int .u32 3835390401), (17, .int .u32 4022224774), (18, .int .u32 264347078), (19, .int .u32 604807628), (20, .int .u32 770255983), (21, .int .u32 1249150122), (22, .int .u32 1555081692), (23, .int .u32 1996064986), (24, .int .u32 2554220882), (25, .int .u32 2821834349), (26, .int .u32 2952996808), (27, .int .u32 3210313671), (28, .int .u32 3336571891), (29, .int .u32 3584528711), (30, .int .u32 113926993), (31, .int .u32 338241895), (32, .int .u32 666307205), (33, .int .u32 773529912), (34, .int .u32 1294757372), (35, .int .u32 1396182291), (36, .int .u32 1695183700), (37, .int .u32 1986661051), (38, .int .u32 2177026350), (39, .int .u32 2456956037), (40, .int .u32 2730485921), (41, .int .u32 2820302411), (42, .int .u32 3259730800), (43, .int .u32 3345764771), (44, .int .u32 3516065817), (45, .int .u32 3600352804), (46, .int .u32 4094571909), (47, .int .u32 275423344), (48, .int .u32 430227734), (49, .int .u32 506948616), (50, .int .u32 659060556), (51, .int .u32 883997877), (52, .int .u32 958139571), (53, .int .u32 1322822218), (54, .int .u32 1537002063), (55, .int .u32 1747873779), (56, .int .u32 1955562222), (57, .int .u32 2024104815), (58, .int .u32 2227730452), (59, .int .u32 2361852424), (60, .int .u32 2428436474), (61, .int .u32 2756734187), (62, .int .u32 3204031479), (63, .int .u32 3329325298)]).run Tryd.prog w = .ok (.agg (wordsV roundK).toArray) w := by kernel_rfl

set_option maxRecDepth 100000 in
set_option maxHeartbeats 400000 in
theorem key_any (t : Nat) (ht : t < 64) (w : World) :
    Calls Tryd.prog 18 #[.int .i64 (t : Int)] w fun e w' => e = .returned (.int .u32 ((roundK.getD t 0).toNat : Int)) ∧ Below w.heap.size w w' := by
  go_enter Tryd.func18, Tryd.ntmps18
  go_wp2_with (first
    | ((with_reducible show wpList _ _ _ (⟨some 4, _, _, _, _, _⟩ :: _) _ _); go_must (refine wpList_ok rfl (v := .agg (wordsV roundK).toArray) (w' := w) (by unfold execOp; simp only [List.map_toArray, List.map_cons, List.map_nil, Sem.run_bind, Sem.run_pure]; exact congrArg (fun r => Result.andThen r _) (key_build w)) ?_))
    | ((with_reducible show wpList _ _ _ (⟨some 3, _, _, _, _, _⟩ :: _) _ _); go_must (refine alloc_row rfl 42 (wordsV (zeroW 64)) rfl zero_64w ?_); intro w1 hr1 hbel1 hsz1; have HS1 := Lib.hid hsz1; clear hsz1)
    | ((with_reducible show wpList _ _ _ (⟨none, .store 42 _ _, _, _, _, _⟩ :: _) _ _); go_must (refine store_row rfl 42 (.tmp 3) (.tmp 4) rfl w.heap.size 42 (wordsV (zeroW 64)) (wordsV roundK) rfl rfl hr1 rfl info_64w (wordsV_one _) ?_); intro w2 hr2 hgr2 hsz2; have HS2 := Lib.hid hsz2; clear hsz2; have hcl := hr2.cell t (cell_words roundK t ht)))
  go_ret
  exact ⟨rfl, hbel1.grown hgr2 hbel1.size (fun k hk => by simp at hk; omega)⟩
#print axioms key_any
end Go.Proofs.YtkjgcgdfofheeaaDoor
