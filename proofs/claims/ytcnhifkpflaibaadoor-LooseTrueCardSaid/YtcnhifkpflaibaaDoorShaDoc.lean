/-
  Merged: ShaCopy, ShaPad, ShaRefA.
-/
import Derived.Test.YtcnhifkpflaibaaDoorBytes
import Derived.Test.YtcnhifkpflaibaaDoorShaAll
import Derived.Deep.LoopGhost
import Derived.Deep.RegionHeld2
import Derived.BigQuiet
namespace Go.Proofs.YtcnhifkpflaibaaDoor
open Go.RowKit

theorem own_emptySh (w : World) : Own (w.alloc (.cells #[] 5)) w.heap.size (.slice (some ⟨w.heap.size, 0, none⟩) 0 0) [] :=
  World.ownsRow_lit w #[] 0 (Nat.le_refl _) (by unfold maxLen; omega) rfl

end Go.Proofs.YtcnhifkpflaibaaDoor

namespace Go.Proofs.YtcnhifkpflaibaaDoor
open Go.RowKit

theorem pad_next (l : List UInt8) (j : Nat) : (l ++ 128 :: List.replicate j 0) ++ [0] = l ++ 128 :: List.replicate (j + 1) 0 := by
  rw [List.append_assoc, List.cons_append, List.replicate_succ']

theorem pad_mod (L j z : Nat) (hz : z = zerosF L) (hj : j < z) : ¬ ((L + 1 + j : Nat) : Int) % 64 = 56 := by
  unfold zerosF at hz
  split at hz <;> omega
theorem pad_mod_end (L z : Nat) (hz : z = zerosF L) : ((L + 1 + z : Nat) : Int) % 64 = 56 := by
  unfold zerosF at hz
  split at hz <;> omega

set_option maxRecDepth 100000 in
set_option maxHeartbeats 400000 in
theorem padded_any (a : Option Addr) (n c : Nat) (l : List UInt8) (w : World) (hb : Bytes w a n c l) (hl : l.length ≤ 1000000) :
    Calls Tryd.prog 55 #[.slice a n c] w (Made w (padF l)) := by
  have hbel : Below w.heap.size w (w.alloc (.cells #[] 5)) := (Below.refl _ _).alloc (Nat.le_refl _) _
  have HO := Lib.hid (own_emptySh w)
  have HB := Lib.hid (hb.below hbel)
  have HBL := Lib.hid hbel
  have hn := hb.1
  have hnm : n ≤ 1000000 := by omega
  have HN := Lib.hid hn
  obtain ⟨z, hz⟩ : ∃ z, z = zerosF l.length := ⟨_, rfl⟩
  have hz64 : z ≤ 64 := by rw [hz]; unfold zerosF; split <;> omega
  have HZ := Lib.hid hz
  clear hbel hb hn hz
  go_enter Tryd.func55, Tryd.ntmps55
  go_wp2_with (first
    | ((with_reducible show wpList _ _ _ (⟨some 8, _, _, _, _, _⟩ :: _) _ _); go_must (refine app_bytes rfl (.tmp 6) (.tmp 7) rfl w.heap.size _ [] rfl HO.out a n c l rfl HB.out (by simp; omega) (by simp) ?_); intro v1 w1 hown1 hgr1; have hb1 := HBL.out.grown hgr1 (by simp) HO.out.grown)
    | ((with_reducible show wpList _ _ _ (⟨some 11, _, _, _, _, _⟩ :: _) _ _); go_must (refine app_bytes rfl (.tmp 9) (.tmp 10) rfl w.heap.size _ _ rfl (hown1.alloc _) (some ⟨w1.heap.size, 0, none⟩) 1 1 [128] rfl (bytes_one _ 128) (by have := HN.out; simp; omega) (by have := hb1.size; simp; omega) ?_); intro v2 w2 hown2 hgr2; have hb2 := (hb1.alloc hb1.size (.cells #[.int .u8 (((128 : UInt8).toNat : Nat) : Int)] 5)).grown hgr2 (by have := hb1.size; simp; omega) hown1.grown))
  go_loopg [3] z (fun gh v3 W => ∃ j : Nat, gh + j = z ∧ Own W w.heap.size v3 (l ++ 128 :: List.replicate j 0) ∧ Below w.heap.size w W)
  case atStart => exact ⟨0, rfl, by simpa using hown2, hb2⟩
  case round =>
    obtain ⟨j, hg, hown, hbel⟩ := hrel
    have HG := Lib.hid hg
    have hjz : j ≤ z := by omega
    clear hg hown1 hgr1 hb1 hown2 hgr2 hb2
    obtain ⟨a', n', c', rfl, hby⟩ := hown.bytes
    have hnn : n' = l.length + 1 + j := by have := hby.1; simp at this; omega
    clear hby
    subst hnn
    by_cases hj : j < z
    · have hm := pad_mod l.length j z HZ.out hj
      go_wp2_with ((with_reducible show wpList _ _ _ (⟨some 18, _, _, _, _, _⟩ :: _) _ _); go_must (refine app_bytes rfl (.tmp 16) (.tmp 17) rfl w.heap.size _ _ rfl (hown.alloc _) (some ⟨wr.heap.size, 0, none⟩) 1 1 [0] rfl (bytes_one _ 0) (by have := HN.out; simp; omega) (by have := hbel.size; simp; omega) ?_); intro v4 w4 hown4 hgr4)
      go_roundg (gk - 1)
      case measure => have := HG.out; omega
      case rel => exact ⟨j + 1, by have := HG.out; omega, by rw [← pad_next]; exact hown4, (hbel.alloc hbel.size _).grown hgr4 (by have := hbel.size; simp; omega) hown.grown⟩
    · obtain rfl : j = z := by omega
      have hm := pad_mod_end l.length j HZ.out
      have hne : ((((l.length : Nat) : Int) + 1 + (j : Int)) % 64 != 56) = false := by simp; omega
      clear hm
      go_wp2
      go_loopg [3, 5] 8 (fun gh v3 v5 W => ∃ i : Nat, gh + i = 8 ∧ v5 = .int .i64 i ∧ Own W w.heap.size v3 (l ++ 128 :: (List.replicate j 0 ++ lenB l.length i)) ∧ Below w.heap.size w W)
      case atStart => exact ⟨0, rfl, rfl, by simpa [lenB] using hown, hbel⟩
      case round =>
        obtain ⟨i, hg, rfl, hown, hbel⟩ := hrel
        have HG := Lib.hid hg
        have hi8 : i ≤ 8 := by omega
        clear hg hne
        by_cases hi : i < 8
        · have hBF := Lib.hid (show (n : Int) * 8 / 2 ^ (56 - 8 * i) % 256 = ((UInt8.ofNat (l.length * 8 / 2 ^ (8 * (7 - i)) % 256)).toNat : Int) by
            rw [show 56 - 8 * i = 8 * (7 - i) from by omega, ← HN.out]; exact byte_form l.length i)
          go_wp2_with ((with_reducible show wpList _ _ _ (⟨some 36, _, _, _, _, _⟩ :: _) _ _); go_must (refine app_bytes rfl (.tmp 27) (.tmp 35) rfl w.heap.size _ _ rfl (hown.alloc _) (some ⟨wr.heap.size, 0, none⟩) 1 1 [UInt8.ofNat (l.length * 8 / 2 ^ (8 * (7 - i)) % 256)] rfl (by rw [hBF.out]; exact bytes_one _ _) (by have := HN.out; simp [lenB]; omega) (by have := hbel.size; simp; omega) ?_); intro v5 w5 hown5 hgr5)
          go_roundg (gk - 1)
          case measure => have := HG.out; omega
          case rel =>
            refine ⟨i + 1, by have := HG.out; omega, by go_num, ?_, (hbel.alloc hbel.size _).grown hgr5 (by have := hbel.size; simp; omega) hown.grown⟩
            rw [lenB_next, ← List.append_assoc, ← List.cons_append, ← List.append_assoc]
            exact hown5
        · obtain rfl : i = 8 := by omega
          go_wp2
          go_ret
          exact Made.of (by unfold padF endF; rw [← HZ.out]; exact hown) hbel
#print axioms padded_any
theorem key_build (w : World) : (Instr.build 98 #[(0, .int .u32 1116352408), (1, .int .u32 1899447441), (2, .int .u32 3049323471), (3, .int .u32 3921009573), (4, .int .u32 961987163), (5, .int .u32 1508970993), (6, .int .u32 2453635748), (7, .int .u32 2870763221), (8, .int .u32 3624381080), (9, .int .u32 310598401), (10, .int .u32 607225278), (11, .int .u32 1426881987), (12, .int .u32 1925078388), (13, .int .u32 2162078206), (14, .int .u32 2614888103), (15, .int .u32 3248222580), (16, .int .u32 3835390401), (17, .int .u32 4022224774), (18, .int .u32 264347078), (19, .int .u32 604807628), (20, .int .u32 770255983), (21, .int .u32 1249150122), (22, .int .u32 1555081692), (23, .int .u32 1996064986), (24, .int .u32 2554220882), (25, .int .u32 2821834349), (26, .int .u32 2952996808), (27, .int .u32 3210313671), (28, .int .u32 3336571891), (29, .int .u32 3584528711), (30, .int .u32 113926993), (31, .int .u32 338241895), (32, .int .u32 666307205), (33, .int .u32 773529912), (34, .int .u32 1294757372), (35, .int .u32 1396182291), (36, .int .u32 1695183700), (37, .int .u32 1986661051), (38, .int .u32 2177026350), (39, .int .u32 2456956037), (40, .int .u32 2730485921), (41, .int .u32 2820302411), (42, .int .u32 3259730800), (43, .int .u32 3345764771), (44, .int .u32 3516065817), (45, .int .u32 3600352804), (46, .int .u32 4094571909), (47, .int .u32 275423344), (48, .int .u32 430227734), (49, .int .u32 506948616), (50, .int .u32 659060556), (51, .int .u32 883997877), (52, .int .u32 958139571), (53, .int .u32 1322822218), (54, .int .u32 1537002063), (55, .int .u32 1747873779), (56, .int .u32 1955562222), (57, .int .u32 2024104815), (58, .int .u32 2227730452), (59, .int .u32 2361852424), (60, .int .u32 2428436474), (61, .int .u32 2756734187), (62, .int .u32 3204031479), (63, .int .u32 3329325298)]).run Tryd.prog w = .ok (.agg (wordsV roundK).toArray) w := by kernel_rfl

set_option maxRecDepth 100000 in
set_option maxHeartbeats 400000 in
theorem key_any (t : Nat) (ht : t < 64) (w : World) :
    Calls Tryd.prog 57 #[.int .i64 (t : Int)] w fun e w' => e = .returned (.int .u32 ((roundK.getD t 0).toNat : Int)) ∧ Below w.heap.size w w' := by
  go_enter Tryd.func57, Tryd.ntmps57
  go_wp2_with (first
    | ((with_reducible show wpList _ _ _ (⟨some 4, _, _, _, _, _⟩ :: _) _ _); go_must (refine wpList_ok rfl (v := .agg (wordsV roundK).toArray) (w' := w) (by unfold execOp; simp only [List.map_toArray, List.map_cons, List.map_nil, Sem.run_bind, Sem.run_pure]; exact congrArg (fun r => Result.andThen r _) (key_build w)) ?_))
    | ((with_reducible show wpList _ _ _ (⟨some 3, _, _, _, _, _⟩ :: _) _ _); go_must (refine alloc_row rfl 98 (wordsV (zeroW 64)) rfl zero_64w ?_); intro w1 hr1 hbel1 hsz1; have HS1 := Lib.hid hsz1; clear hsz1)
    | ((with_reducible show wpList _ _ _ (⟨none, .store 98 _ _, _, _, _, _⟩ :: _) _ _); go_must (refine store_row rfl 98 (.tmp 3) (.tmp 4) rfl w.heap.size 98 (wordsV (zeroW 64)) (wordsV roundK) rfl rfl hr1 rfl info_64w (wordsV_one _) ?_); intro w2 hr2 hgr2 hsz2; have HS2 := Lib.hid hsz2; clear hsz2; have hcl := hr2.cell t (cell_words roundK t ht)))
  go_ret
  exact ⟨rfl, hbel1.grown hgr2 hbel1.size (fun k hk => by simp at hk; omega)⟩
#print axioms key_any
end Go.Proofs.YtcnhifkpflaibaaDoor

namespace Go.Proofs.YtcnhifkpflaibaaDoor
open Go.RowKit

theorem first_build (w : World) : (Instr.build 91 #[(0, .int .u32 1779033703), (1, .int .u32 3144134277), (2, .int .u32 1013904242), (3, .int .u32 2773480762), (4, .int .u32 1359893119), (5, .int .u32 2600822924), (6, .int .u32 528734635), (7, .int .u32 1541459225)]).run Tryd.prog w = .ok (.agg (wordsV firstH).toArray) w := by kernel_rfl

theorem endF_length (n : Nat) : (endF n).length = 9 + zerosF n := by unfold endF lenB; simp; omega
theorem padF_length (l : List UInt8) : (padF l).length = l.length + 9 + zerosF l.length := by unfold padF; rw [List.length_append, endF_length]; omega
theorem padF_mod (l : List UInt8) : (padF l).length % 64 = 0 := by
  rw [padF_length]; unfold zerosF; split <;> omega
theorem zerosF_le (n : Nat) : zerosF n ≤ 63 := by unfold zerosF; split <;> omega

/-- Block number i of some bytes. -/
def blockF (p : List UInt8) (i : Nat) : List UInt8 := (p.drop (64 * i)).take 64
theorem block_getD (p : List UInt8) (i j : Nat) (hj : j < 64) : (blockF p i).getD j 0 = p.getD (64 * i + j) 0 := by
  unfold blockF
  simp [List.getD, hj, List.getElem?_drop]
theorem stF_next (p : List UInt8) (i : Nat) : stF p (i + 1) = turnF (stF p i) (blockF p i) := rfl

theorem sched_first (b : List UInt8) (t : Nat) (h : t < 16) : (sched b 48).getD t 0 = word4 (b.getD (4 * t) 0) (b.getD (4 * t + 1) 0) (b.getD (4 * t + 2) 0) (b.getD (4 * t + 3) 0) := by
  have hk : ∀ k, (sched b k).getD t 0 = (first16 b).getD t 0 := by
    intro k
    induction k with
    | zero => rfl
    | succ k ih =>
      have hl := sched_length b k
      rw [sched, List.getD_eq_getElem?_getD, List.getElem?_append_left (by omega), ← List.getD_eq_getElem?_getD]
      exact ih
  rw [hk 48, first16_getD b t h]

theorem next_form2 (y2 y7 y15 y16 : UInt32) :
    (((bits .xor .u32 (bits .xor .u32 ((rotr 17 y2).toNat : Int) ((rotr 19 y2).toNat : Int)) ((y2.toNat : Int) / 1024) + (y7.toNat : Int)) % 4294967296 + bits .xor .u32 (bits .xor .u32 ((rotr 7 y15).toNat : Int) ((rotr 18 y15).toNat : Int)) ((y15.toNat : Int) / 8)) % 4294967296 + (y16.toNat : Int)) % 4294967296
      = ((((sig1 y2 + y7) + sig0 y15) + y16).toNat : Int) := by
  rw [sig1_form, sig0_form, UInt32.toNat_add, UInt32.toNat_add, UInt32.toNat_add]
  omega

theorem sched_take (b : List UInt8) : ∀ n k, k ≤ n → (sched b n).take (16 + k) = sched b k := by
  intro n
  induction n with
  | zero =>
    intro k hk
    obtain rfl : k = 0 := by omega
    exact List.take_of_length_le (by rw [sched_length]; omega)
  | succ n ih =>
    intro k hk
    by_cases h : k = n + 1
    · subst h
      exact List.take_of_length_le (by rw [sched_length]; omega)
    · rw [sched, List.take_append_of_le_length (by rw [sched_length]; omega)]
      exact ih k (by omega)

theorem sched_rec (b : List UInt8) (t : Nat) (h0 : 16 ≤ t) (h1 : t < 64) :
    (sched b 48).getD t 0 = ((sig1 ((sched b 48).getD (t - 2) 0) + (sched b 48).getD (t - 7) 0) + sig0 ((sched b 48).getD (t - 15) 0)) + (sched b 48).getD (t - 16) 0 := by
  have e1 : (sched b 48).getD t 0 = (sched b (t - 16 + 1)).getD t 0 := getD_of_take (sched_take b 48 (t - 16 + 1) (by omega)) (by omega)
  have hl := sched_length b (t - 16)
  have e2 : (sched b (t - 16 + 1)).getD t 0 = nextW (sched b (t - 16)) := by
    rw [sched, List.getD_eq_getElem?_getD, List.getElem?_append_right (by omega), show t - (sched b (t - 16)).length = 0 from by omega]
    rfl
  have e3 : ∀ i, i < t → (sched b 48).getD i 0 = (sched b (t - 16)).getD i 0 := fun i hi => getD_of_take (sched_take b 48 (t - 16) (by omega)) (by omega)
  rw [e1, e2, e3 _ (by omega), e3 _ (by omega), e3 _ (by omega), e3 _ (by omega)]
  unfold nextW
  rw [hl, show 16 + (t - 16) - 2 = t - 2 from by omega, show 16 + (t - 16) - 7 = t - 7 from by omega, show 16 + (t - 16) - 15 = t - 15 from by omega, show 16 + (t - 16) - 16 = t - 16 from by omega]

/-- A new variable of a row's type, its block under a name of its own. -/
theorem alloc_row_as {w : World} {ops : Array Oper} {rest : List Oper} {o : Oper} {a : Act} {Q : Exit → Act → World → Prop} (hgd : o.guard = none) (t : TypeId) (cs : List Value) (ho : o.op = .alloc t)
    (hz : ∀ w : World, (zeroValue t).run Tryd.prog w = .ok (.agg cs.toArray) w)
    (h : ∀ w1 g, g = w.heap.size → RowAt w1 g t cs → Below w.heap.size w w1 → w1.heap.size = w.heap.size + 1 → wpList Tryd.prog ops Q rest (a.put o.dst (.pointer (some ⟨g, 0, none⟩))) w1) :
    wpList Tryd.prog ops Q (o :: rest) a w := alloc_row hgd t cs ho hz (fun w1 h1 h2 h3 => h w1 _ rfl h1 h2 h3)

theorem set8v (x0 x1 x2 x3 x4 x5 x6 x7 : UInt32) (v0 v1 v2 v3 v4 v5 v6 v7 : Value) (g : Nat) (t : TypeId) (w : World) (hr : RowAt w g t (wordsV [x0, x1, x2, x3, x4, x5, x6, x7])) :
    RowAt ((((((((w.setCell ⟨g, 0, none⟩ v0).setCell ⟨g, 1, none⟩ v1).setCell ⟨g, 2, none⟩ v2).setCell ⟨g, 3, none⟩ v3).setCell ⟨g, 4, none⟩ v4).setCell ⟨g, 5, none⟩ v5).setCell ⟨g, 6, none⟩ v6).setCell ⟨g, 7, none⟩ v7) g t [v0, v1, v2, v3, v4, v5, v6, v7] ∧ w.grownBy ((((((((w.setCell ⟨g, 0, none⟩ v0).setCell ⟨g, 1, none⟩ v1).setCell ⟨g, 2, none⟩ v2).setCell ⟨g, 3, none⟩ v3).setCell ⟨g, 4, none⟩ v4).setCell ⟨g, 5, none⟩ v5).setCell ⟨g, 6, none⟩ v6).setCell ⟨g, 7, none⟩ v7) (some g) := by
  refine ⟨((((((((hr.set 0 v0).set 1 v1).set 2 v2).set 3 v3).set 4 v4).set 5 v5).set 6 v6).set 7 v7), ?_⟩
  have S : ∀ (W : World) (j : Nat) (v : Value), W.grownBy (W.setCell ⟨g, j, none⟩ v) (some g) := fun W j v => ⟨rfl, rfl, rfl, by simp [World.setCell], fun i _ hi => Below.heap_setCell _ _ _ _ (fun e => hi (by simp [e]))⟩
  exact (grownBy_trans (grownBy_trans (grownBy_trans (grownBy_trans (grownBy_trans (grownBy_trans (grownBy_trans (S _ 0 _) (S _ 1 _)) (S _ 2 _)) (S _ 3 _)) (S _ 4 _)) (S _ 5 _)) (S _ 6 _)) (S _ 7 _))

theorem rstepA_form (a b c d e f g h k w : UInt32) :
    ((((((h.toNat : Int) + bits .xor .u32 (bits .xor .u32 ((rotr 6 e).toNat : Int) ((rotr 11 e).toNat : Int)) ((rotr 25 e).toNat : Int)) % 4294967296 + bits .xor .u32 (bits .and .u32 (e.toNat : Int) (f.toNat : Int)) (bits .and .u32 (bits .xor .u32 IntKind.u32.max (e.toNat : Int)) (g.toNat : Int))) % 4294967296 + (k.toNat : Int)) % 4294967296 + (w.toNat : Int)) % 4294967296
      + (bits .xor .u32 (bits .xor .u32 ((rotr 2 a).toNat : Int) ((rotr 13 a).toNat : Int)) ((rotr 22 a).toNat : Int)
      + bits .xor .u32 (bits .xor .u32 (bits .and .u32 (a.toNat : Int) (b.toNat : Int)) (bits .and .u32 (a.toNat : Int) (c.toNat : Int))) (bits .and .u32 (b.toNat : Int) (c.toNat : Int))) % 4294967296) % 4294967296
      = ((stepF k w ⟨a, b, c, d, e, f, g, h⟩).a.toNat : Int) := by
  have h1 := firstF_toNat ⟨a, b, c, d, e, f, g, h⟩ k w
  rw [bigS1_form, chF_form, bigS0_form, majF_form]
  show _ = (((firstF ⟨a, b, c, d, e, f, g, h⟩ k w + bigS0 a) + majF a b c).toNat : Int)
  rw [UInt32.toNat_add, UInt32.toNat_add]
  simp only [] at h1
  omega

theorem rstepE_form (a b c d e f g h k w : UInt32) :
    ((d.toNat : Int) + (((((h.toNat : Int) + bits .xor .u32 (bits .xor .u32 ((rotr 6 e).toNat : Int) ((rotr 11 e).toNat : Int)) ((rotr 25 e).toNat : Int)) % 4294967296 + bits .xor .u32 (bits .and .u32 (e.toNat : Int) (f.toNat : Int)) (bits .and .u32 (bits .xor .u32 IntKind.u32.max (e.toNat : Int)) (g.toNat : Int))) % 4294967296 + (k.toNat : Int)) % 4294967296 + (w.toNat : Int)) % 4294967296) % 4294967296
      = ((stepF k w ⟨a, b, c, d, e, f, g, h⟩).e.toNat : Int) := by
  have h1 := firstF_toNat ⟨a, b, c, d, e, f, g, h⟩ k w
  rw [bigS1_form, chF_form]
  show _ = ((d + firstF ⟨a, b, c, d, e, f, g, h⟩ k w).toNat : Int)
  rw [UInt32.toNat_add]
  simp only [] at h1
  omega

theorem bytes_drew {w : World} {a : Option Addr} {n c : Nat} {l : List UInt8} (h : Bytes w a n c l) : Bytes w.drew a n c l := h
theorem drewB' {base : Nat} {w w' : World} (h : Below base w w') : Below base w w'.drew := ⟨h.os, h.tape, h.output, h.size, h.block⟩
theorem bytes_kept {w : World} {a : Option Addr} {n c g j : Nat} {l : List UInt8} (h : Bytes w a n c l) (hn : NotInSh a g) (v : Value) : Bytes (w.setCell ⟨g, j, none⟩ v).drew a n c l := by
  have := h.grown (w' := (w.setCell ⟨g, j, none⟩ v).drew) (g := g) ⟨rfl, rfl, rfl, by simp [World.setCell, World.drew], fun i _ hi => Below.heap_setCell _ _ _ _ (fun e => hi (by simp [e]))⟩ hn
  exact this

/-- The bytes of an id that is filled word by word. -/
def outF (xs : List UInt32) (k : Nat) : List UInt8 := idOf (xs.take k) ++ List.replicate (32 - 4 * k) 0
theorem outF_length (xs : List UInt32) (hx : xs.length = 8) (k : Nat) (hk : k ≤ 8) : (outF xs k).length = 32 := by
  match xs, hx with
  | [_, _, _, _, _, _, _, _], _ =>
    match k, hk with
    | 0, _ => rfl
    | 1, _ => rfl
    | 2, _ => rfl
    | 3, _ => rfl
    | 4, _ => rfl
    | 5, _ => rfl
    | 6, _ => rfl
    | 7, _ => rfl
    | 8, _ => rfl
    | k + 9, h => omega
theorem out_next (xs : List UInt32) (hx : xs.length = 8) (k : Nat) (hk : k < 8) :
    ((((bytesV (outF xs k)).set (4 * k) (.int .u8 (((xs.getD k 0).toNat : Int) / 16777216 % 256))).set (4 * k + 1) (.int .u8 (((xs.getD k 0).toNat : Int) / 65536 % 256))).set (4 * k + 2) (.int .u8 (((xs.getD k 0).toNat : Int) / 256 % 256))).set (4 * k + 3) (.int .u8 (((xs.getD k 0).toNat : Int) % 256)) = bytesV (outF xs (k + 1)) := by
  have h1 : ∀ x : UInt32, (x.toNat : Int) / (16777216 : Int) % (256 : Int) = (((x >>> 24).toUInt8).toNat : Int) := fun x => byte_of x 24 (by omega)
  have h2 : ∀ x : UInt32, (x.toNat : Int) / (65536 : Int) % (256 : Int) = (((x >>> 16).toUInt8).toNat : Int) := fun x => byte_of x 16 (by omega)
  have h3 : ∀ x : UInt32, (x.toNat : Int) / (256 : Int) % (256 : Int) = (((x >>> 8).toUInt8).toNat : Int) := fun x => byte_of x 8 (by omega)
  have h4 : ∀ x : UInt32, (x.toNat : Int) % 256 = ((x.toUInt8).toNat : Int) := fun x => by rw [UInt32.toNat_toUInt8]; omega
  simp only [h1, h2, h3, h4]
  match xs, hx with
  | [_, _, _, _, _, _, _, _], _ =>
    match k, hk with
    | 0, _ => rfl
    | 1, _ => rfl
    | 2, _ => rfl
    | 3, _ => rfl
    | 4, _ => rfl
    | 5, _ => rfl
    | 6, _ => rfl
    | 7, _ => rfl
    | k + 8, h => omega
theorem out_last (xs : List UInt32) (hx : xs.length = 8) : outF xs 8 = idOf xs := by
  unfold outF
  rw [List.take_of_length_le (by omega)]
  simp
theorem RowAt.set4 {g : Nat} {t : TypeId} {cs : List Value} {w : World} (h : RowAt w g t cs) (i0 i1 i2 i3 : Nat) (v0 v1 v2 v3 : Value) :
    RowAt ((((w.setCell ⟨g, i0, none⟩ v0).setCell ⟨g, i1, none⟩ v1).setCell ⟨g, i2, none⟩ v2).setCell ⟨g, i3, none⟩ v3) g t ((((cs.set i0 v0).set i1 v1).set i2 v2).set i3 v3) := (((h.set i0 v0).set i1 v1).set i2 v2).set i3 v3
theorem RowAt.other4 {g g' : Nat} {t : TypeId} {cs : List Value} {w : World} (h : RowAt w g t cs) (hne : g ≠ g') (i0 i1 i2 i3 : Nat) (v0 v1 v2 v3 : Value) :
    RowAt ((((w.setCell ⟨g', i0, none⟩ v0).setCell ⟨g', i1, none⟩ v1).setCell ⟨g', i2, none⟩ v2).setCell ⟨g', i3, none⟩ v3) g t cs := (((h.other hne _).other hne _).other hne _).other hne _
theorem below_set4 {base g : Nat} {w0 w : World} (h : Below base w0 w) (hg : base ≤ g) (i0 i1 i2 i3 : Nat) (v0 v1 v2 v3 : Value) :
    Below base w0 ((((w.setCell ⟨g, i0, none⟩ v0).setCell ⟨g, i1, none⟩ v1).setCell ⟨g, i2, none⟩ v2).setCell ⟨g, i3, none⟩ v3) := (((h.setCell hg _).setCell hg _).setCell hg _).setCell hg _
end Go.Proofs.YtcnhifkpflaibaaDoor
