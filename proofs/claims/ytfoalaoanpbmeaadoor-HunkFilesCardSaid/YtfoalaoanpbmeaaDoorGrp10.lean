/-
  Merged: UtfDec, UtfEnc0, UtfOneMath.
-/
import Derived.Test.YtfoalaoanpbmeaaDoorUtfMath
import Derived.Lib.DecodeN
import Derived.Shelf.Unicode.DecodeAny
import Derived.Lib.Small
import Derived.Test.YtfoalaoanpbmeaaDoorBytes
namespace Go.Proofs.YtfoalaoanpbmeaaDoor

/-- A rune and its width, as the library tells them. -/
def decR (l : List UInt8) : Nat × Nat := match decF l with | some p => p | none => (65533, 1)

theorem contF_false (c : UInt8) (h : ¬ c.toNat / 64 = 2) : contF c = false := by
  have := c.toNat_lt
  cases hc : contF c with
  | false => rfl
  | true => rw [contF_iff] at hc; omega
theorem contF_true (c : UInt8) (h : c.toNat / 64 = 2) : contF c = true := by
  rw [contF_iff]; omega

theorem decN_any (a b c d : UInt8) (n : Nat) (r : List UInt8) (hn : 1 ≤ n) (h1 : n = 1 → r = []) (h2 : n = 2 → r = [b]) (h3 : n = 3 → r = [b, c]) (h4 : 4 ≤ n → ∃ t, r = b :: c :: d :: t) :
    Lib.decodeN n a.toNat b.toNat c.toNat d.toNat = decR (a :: r) := by
  have ha := a.toNat_lt
  have hb := b.toNat_lt
  have hc := c.toNat_lt
  have hd := d.toNat_lt
  unfold Lib.decodeN decR
  rw [decF.eq_def]
  dsimp only
  by_cases e1 : a.toNat < 128
  · rw [if_pos e1, if_pos e1]
  · rw [if_neg e1, if_neg e1]
    by_cases e2 : a.toNat < 194
    · rw [if_pos e2]
      by_cases e6 : a.toNat / 32 = 6 ∧ (1 < n ∧ b.toNat / 64 = 2)
      · rw [if_pos e6, if_neg (by omega)]
      · rw [if_neg e6, if_neg (by omega), if_neg (by omega)]
    · rw [if_neg e2]
      by_cases e3 : a.toNat < 224
      · rw [if_pos e3]
        by_cases e7 : 1 < n ∧ b.toNat / 64 = 2
        · rw [if_pos ⟨by omega, e7⟩, if_pos (by omega)]
          obtain ⟨t, rfl⟩ : ∃ t, r = b :: t := by
            rcases Nat.lt_trichotomy n 3 with h | h | h
            · exact ⟨[], h2 (by omega)⟩
            · exact ⟨[c], h3 h⟩
            · obtain ⟨t, rfl⟩ := h4 (by omega); exact ⟨_, rfl⟩
          simp only [contF_true b e7.2, if_true]
          rw [show a.toNat % 32 * 64 + b.toNat % 64 = (a.toNat - 192) * 64 + (b.toNat - 128) from by omega]
        · rw [if_neg (by omega), if_neg (by omega), if_neg (by omega)]
          by_cases hn1 : n = 1
          · rw [h1 hn1]
          · obtain ⟨t, rfl⟩ : ∃ t, r = b :: t := by
              rcases Nat.lt_trichotomy n 3 with h | h | h
              · exact ⟨[], h2 (by omega)⟩
              · exact ⟨[c], h3 h⟩
              · obtain ⟨t, rfl⟩ := h4 (by omega); exact ⟨_, rfl⟩
            simp only [contF_false b (by omega), Bool.false_eq_true, if_false]
      · rw [if_neg e3, if_neg (by omega)]
        by_cases e4 : a.toNat < 240
        · rw [if_pos e4]
          by_cases e7 : (1 < n ∧ b.toNat / 64 = 2) ∧ (2 < n ∧ c.toNat / 64 = 2)
          · rw [if_pos ⟨by omega, e7⟩]
            obtain ⟨t, rfl⟩ : ∃ t, r = b :: c :: t := by
              rcases Nat.lt_or_ge n 4 with h | h
              · exact ⟨[], h3 (by omega)⟩
              · obtain ⟨t, rfl⟩ := h4 h; exact ⟨_, rfl⟩
            simp only [contF_true b e7.1.2, contF_true c e7.2.2, true_and, mayF_iff]
            rw [show a.toNat % 16 * 4096 + b.toNat % 64 * 64 + c.toNat % 64 = (a.toNat - 224) * 4096 + (b.toNat - 128) * 64 + (c.toNat - 128) from by omega]
            by_cases hv : 2048 ≤ (a.toNat - 224) * 4096 + (b.toNat - 128) * 64 + (c.toNat - 128) ∧ ((a.toNat - 224) * 4096 + (b.toNat - 128) * 64 + (c.toNat - 128) < 55296 ∨ (57344 ≤ (a.toNat - 224) * 4096 + (b.toNat - 128) * 64 + (c.toNat - 128) ∧ (a.toNat - 224) * 4096 + (b.toNat - 128) * 64 + (c.toNat - 128) ≤ 1114111))
            · rw [if_pos (by omega), if_pos (by omega)]
            · rw [if_neg (by omega), if_neg (by omega)]
          · rw [if_neg (by omega), if_neg (by omega)]
            match r, h1, h2, h3, h4 with
            | [], _, _, _, _ => rfl
            | [_], _, _, _, _ => rfl
            | x :: y :: t, h1, h2, h3, h4 =>
              have hxy : x = b ∧ y = c ∧ 2 < n := by
                rcases Nat.lt_trichotomy n 2 with h | h | h
                · exact absurd (h1 (by omega)) (by simp)
                · exact absurd (h2 h) (by simp)
                · rcases Nat.lt_or_ge n 4 with h' | h'
                  · have := h3 (by omega); simp at this; exact ⟨this.1, this.2.1, h⟩
                  · obtain ⟨t', ht⟩ := h4 h'; simp at ht; exact ⟨ht.1, ht.2.1, h⟩
              obtain ⟨rfl, rfl, h2n⟩ := hxy
              by_cases hbb : x.toNat / 64 = 2
              · simp only [contF_false y (by omega), Bool.false_eq_true, false_and, and_false, if_false]
              · simp only [contF_false x hbb, Bool.false_eq_true, false_and, if_false]
        · rw [if_neg e4, if_neg (by omega)]
          by_cases e7 : (1 < n ∧ b.toNat / 64 = 2) ∧ (2 < n ∧ c.toNat / 64 = 2) ∧ (3 < n ∧ d.toNat / 64 = 2)
          · obtain ⟨t, rfl⟩ := h4 (by omega)
            simp only [contF_true b e7.1.2, contF_true c e7.2.1.2, contF_true d e7.2.2.2, true_and]
            by_cases e8 : a.toNat / 8 = 30
            · rw [if_pos ⟨e8, e7⟩]
              rw [show a.toNat % 8 * 262144 + b.toNat % 64 * 4096 + c.toNat % 64 * 64 + d.toNat % 64 = (a.toNat - 240) * 262144 + (b.toNat - 128) * 4096 + (c.toNat - 128) * 64 + (d.toNat - 128) from by omega]
              by_cases hv : 65536 ≤ (a.toNat - 240) * 262144 + (b.toNat - 128) * 4096 + (c.toNat - 128) * 64 + (d.toNat - 128) ∧ (a.toNat - 240) * 262144 + (b.toNat - 128) * 4096 + (c.toNat - 128) * 64 + (d.toNat - 128) ≤ 1114111
              · rw [if_pos (by omega), if_pos (by omega)]
              · rw [if_neg (by omega), if_neg (by omega)]
            · rw [if_neg (by omega), if_neg (by omega)]
          · rw [if_neg (by omega)]
            match r, h1, h2, h3, h4 with
            | [], _, _, _, _ => rfl
            | [_], _, _, _, _ => rfl
            | [_, _], _, _, _, _ => rfl
            | x :: y :: z :: t, h1, h2, h3, h4 =>
              have hxy : 4 ≤ n := by
                rcases Nat.lt_or_ge n 4 with h' | h'
                · have : n = 1 ∨ n = 2 ∨ n = 3 := by omega
                  rcases this with h | h | h
                  · exact absurd (h1 h) (by simp)
                  · exact absurd (h2 h) (by simp)
                  · exact absurd (h3 h) (by simp)
                · exact h'
              obtain ⟨t', ht⟩ := h4 hxy
              simp only [List.cons.injEq] at ht
              obtain ⟨rfl, rfl, rfl, rfl⟩ := ht
              by_cases hbb : x.toNat / 64 = 2
              · by_cases hcc : y.toNat / 64 = 2
                · simp only [contF_false z (by omega), Bool.false_eq_true, false_and, and_false, if_false]
                · simp only [contF_false y hcc, Bool.false_eq_true, false_and, and_false, if_false]
              · simp only [contF_false x hbb, Bool.false_eq_true, false_and, if_false]

theorem get!_drop (s : ByteArray) (pos i : Nat) : s.get! (pos + i) = (s.data.toList.drop pos).getD i 0 := by
  by_cases h : pos + i < s.size
  · have h' : pos + i < s.data.size := h
    show s.data[pos + i]! = _
    rw [getElem!_pos s.data (pos + i) h', List.getD_eq_getElem?_getD, List.getElem?_drop]
    simp only [Array.getElem?_toList]
    rw [Array.getElem?_eq_getElem h']
    rfl
  · have h' : ¬ pos + i < s.data.size := h
    show s.data[pos + i]! = _
    rw [getElem!_neg s.data (pos + i) h', List.getD_eq_getElem?_getD, List.getElem?_drop, List.getElem?_eq_none (by simpa using h')]
    rfl

/-- What the model's own decoding tells at a place. -/
theorem decode_drop (s : ByteArray) (pos : Nat) (h : pos < s.size) : Utf8.decode s pos = decR (s.data.toList.drop pos) := by
  rw [Lib.decode_at]
  have e0 := get!_drop s pos 0
  rw [Nat.add_zero] at e0
  rw [e0, get!_drop s pos 1, get!_drop s pos 2, get!_drop s pos 3]
  have hl : (s.data.toList.drop pos).length = s.size - pos := by simp
  generalize s.data.toList.drop pos = l at hl
  cases l with
  | nil => simp at hl; omega
  | cons a r =>
    simp only [List.getD_cons_zero, List.getD_cons_succ]
    rw [List.length_cons] at hl
    refine decN_any a _ _ _ _ r (by omega) (fun h1 => List.length_eq_zero_iff.1 (by omega)) (fun h2 => ?_) (fun h3 => ?_) (fun h4 => ?_)
    · match r, hl with
      | [x], _ => rfl
      | [], hl => simp at hl; omega
      | _ :: _ :: _, hl => simp at hl; omega
    · match r, hl with
      | [x, y], _ => rfl
      | [], hl => simp at hl; omega
      | [_], hl => simp at hl; omega
      | _ :: _ :: _ :: _, hl => simp at hl; omega
    · match r, hl with
      | x :: y :: z :: t, _ => exact ⟨t, rfl⟩
      | [], hl => simp at hl; omega
      | [_], hl => simp at hl; omega
      | [_, _], hl => simp at hl; omega

theorem decodeGo_eq (s : ByteArray) (h : 0 < s.size) : Lib.decodeGo s = decR s.data.toList := by
  unfold Lib.decodeGo
  rw [if_neg (by omega), decode_drop s 0 h, List.drop_zero]

theorem decR_some {l : List UInt8} {n k : Nat} (h : decF l = some (n, k)) : decR l = (n, k) := by unfold decR; rw [h]
theorem decR_none {l : List UInt8} (h : decF l = none) : decR l = (65533, 1) := by unfold decR; rw [h]

/-- A rune of its own of one byte is no 65533. -/
theorem decF_one {l : List UInt8} {n : Nat} (h : decF l = some (n, 1)) : n < 128 := by
  obtain ⟨_, hk, _, _⟩ := decF_some h
  rw [encF_length] at hk
  repeat' split at hk
  all_goals omega
#print axioms decode_drop
end Go.Proofs.YtfoalaoanpbmeaaDoor

namespace Go.Proofs.YtfoalaoanpbmeaaDoor
open Go.RowKit

theorem valid_nat (n : Nat) : Lib.validRune (n : Int) = mayF n := by
  rw [Bool.eq_iff_iff, mayF_iff]
  simp [Lib.validRune]
  omega

theorem valid_of (r : Int) (h : Lib.validRune r = true) : ∃ n : Nat, r = (n : Int) ∧ mayF n = true := by
  have h0 : 0 ≤ r := by simp [Lib.validRune] at h; omega
  obtain ⟨n, rfl⟩ := Int.eq_ofNat_of_zero_le h0
  exact ⟨n, rfl, by rw [← valid_nat]; exact h⟩

theorem mayF_lt {n : Nat} (h : mayF n = true) : n ≤ 1114111 := by rw [mayF_iff] at h; omega

/-- The model's own bytes of a rune. -/
theorem encode_eq (n : Nat) (h : mayF n = true) : Utf8.encode (n : Int) = strB (encF n) := by
  have hv : Utf8.valid (n : Int) = true := by
    rw [mayF_iff] at h
    simp [Utf8.valid]
    omega
  unfold Utf8.encode encF
  simp only [hv, if_true, Int.toNat_natCast]
  repeat' split
  all_goals rfl

theorem retB {a b : Bool} (h : a = b) : Ending.returned (.bool a) = .returned (.bool b) := by rw [h]

set_option maxRecDepth 100000 in
set_option maxHeartbeats 400000 in
theorem refMay_any (r : Int) (w : World) : Calls Tryd.prog 79 #[.int .i32 r] w fun e w' => e = .returned (.bool (Lib.validRune r)) ∧ w = w' := by
  obtain ⟨b, hb⟩ : ∃ b, b = Lib.validRune r := ⟨_, rfl⟩
  rw [← hb]
  have HB := Lib.hid hb
  clear hb
  by_cases h1 : 0 ≤ r
  · by_cases h2 : r < 55296
    · have hv := Lib.hid (show b = true by rw [HB.out]; simp [Lib.validRune]; omega)
      clear HB
      go_enter Tryd.func79, Tryd.ntmps79
      go_wp2
      go_ret
      exact ⟨retB hv.out.symm, rfl⟩
    · by_cases h3 : 57343 < r
      · by_cases h4 : r ≤ 1114111
        · have hv := Lib.hid (show b = true by rw [HB.out]; simp [Lib.validRune]; omega)
          clear HB
          go_enter Tryd.func79, Tryd.ntmps79
          go_wp2
          go_ret
          exact ⟨retB hv.out.symm, rfl⟩
        · have hv := Lib.hid (show b = false by rw [HB.out]; simp [Lib.validRune]; omega)
          clear HB
          go_enter Tryd.func79, Tryd.ntmps79
          go_wp2
          go_ret
          exact ⟨retB hv.out.symm, rfl⟩
      · have hv := Lib.hid (show b = false by rw [HB.out]; simp [Lib.validRune]; omega)
        clear HB
        go_enter Tryd.func79, Tryd.ntmps79
        go_wp2
        go_ret
        exact ⟨retB hv.out.symm, rfl⟩
  · have hv := Lib.hid (show b = false by rw [HB.out]; simp [Lib.validRune]; omega)
    clear HB
    have h5 : ¬ 57343 < r := by omega
    go_enter Tryd.func79, Tryd.ntmps79
    go_wp2
    go_ret
    exact ⟨retB hv.out.symm, rfl⟩

theorem own_new (w : World) (l : List UInt8) (h : l.length ≤ 100) : Own (w.alloc (.cells (l.map B).toArray 5)) w.heap.size (.slice (some ⟨w.heap.size, 0, none⟩) l.length l.length) l := by
  refine ⟨by simp, .inr ⟨w.heap.size, l.length, (l.map B).toArray, rfl, Nat.le_refl _, heap_alloc_new w _, Nat.le_refl _, by unfold maxLen; omega, by simp, List.take_of_length_le (by simp)⟩⟩

theorem B_ofNat (n : Nat) (z : Int) (h : n < 256) (hz : z = (n : Int)) : B (UInt8.ofNat n) = .int .u8 z := by
  unfold B; rw [ofNat_toNat n h, hz]

theorem made_new {w : World} {l : List UInt8} {vs : Array Value} {k : Nat} (hv : (l.map B).toArray = vs) (hk : l.length = k) (h : k ≤ 100) :
    Made w l (.returned (.slice (some ⟨w.heap.size, 0, none⟩) k k)) (w.alloc (.cells vs 5)) := by
  subst hv hk
  exact ⟨_, _, _, rfl, own_new w l h, (Below.refl _ _).alloc (Nat.le_refl _) _⟩

set_option maxRecDepth 100000 in
set_option maxHeartbeats 400000 in
theorem refBytes_any (n : Nat) (h : n ≤ 1114111) (w : World) : Calls Tryd.prog 80 #[.int .i32 (n : Int)] w (Made w (encF n)) := by
  by_cases h1 : n < 128
  · have HE := Lib.hid (show encF n = [UInt8.ofNat n] by unfold encF; rw [if_pos h1])
    have g1 : (n : Int) < 128 := by omega
    have H := Lib.hid (show n ≤ 1114111 ∧ n < 128 from ⟨h, h1⟩)
    clear h h1
    go_enter Tryd.func80, Tryd.ntmps80
    go_wp2
    go_ret
    rw [HE.out]
    obtain ⟨h, h1⟩ := H.out
    exact made_new (by simp only [List.map_cons, List.map_nil]; rw [B_ofNat (n) ((n : Int)) (by omega) (by omega)]) rfl (by omega)
  · by_cases h2 : n < 2048
    · have HE := Lib.hid (show encF n = [UInt8.ofNat (192 + n / 64), UInt8.ofNat (128 + n % 64)] by unfold encF; rw [if_neg h1, if_pos h2])
      have g1 : ¬ ((n : Int) < 128) := by omega
      have g2 : (n : Int) < 2048 := by omega
      have H := Lib.hid (show n ≤ 1114111 ∧ ¬ n < 128 ∧ n < 2048 from ⟨h, h1, h2⟩)
      clear h h1 h2
      go_enter Tryd.func80, Tryd.ntmps80
      go_wp2
      go_ret
      rw [HE.out]
      obtain ⟨h, h1, h2⟩ := H.out
      exact made_new (by simp only [List.map_cons, List.map_nil]; rw [B_ofNat (192 + n / 64) (192 + (n : Int) / 64) (by omega) (by omega), B_ofNat (128 + n % 64) (128 + (n : Int) % 64) (by omega) (by omega)]) rfl (by omega)
    · by_cases h3 : n < 65536
      · have HE := Lib.hid (show encF n = [UInt8.ofNat (224 + n / 4096), UInt8.ofNat (128 + n / 64 % 64), UInt8.ofNat (128 + n % 64)] by unfold encF; rw [if_neg h1, if_neg h2, if_pos h3])
        have g1 : ¬ ((n : Int) < 128) := by omega
        have g2 : ¬ ((n : Int) < 2048) := by omega
        have g3 : (n : Int) < 65536 := by omega
        have H := Lib.hid (show n ≤ 1114111 ∧ ¬ n < 128 ∧ ¬ n < 2048 ∧ n < 65536 from ⟨h, h1, h2, h3⟩)
        clear h h1 h2 h3
        go_enter Tryd.func80, Tryd.ntmps80
        go_wp2
        go_ret
        rw [HE.out]
        obtain ⟨h, h1, h2, h3⟩ := H.out
        exact made_new (by simp only [List.map_cons, List.map_nil]; rw [B_ofNat (224 + n / 4096) (224 + (n : Int) / 4096) (by omega) (by omega), B_ofNat (128 + n / 64 % 64) (128 + (n : Int) / 64 % 64) (by omega) (by omega), B_ofNat (128 + n % 64) (128 + (n : Int) % 64) (by omega) (by omega)]) rfl (by omega)
      · have HE := Lib.hid (show encF n = [UInt8.ofNat (240 + n / 262144), UInt8.ofNat (128 + n / 4096 % 64), UInt8.ofNat (128 + n / 64 % 64), UInt8.ofNat (128 + n % 64)] by unfold encF; rw [if_neg h1, if_neg h2, if_neg h3])
        have g1 : ¬ ((n : Int) < 128) := by omega
        have g2 : ¬ ((n : Int) < 2048) := by omega
        have g3 : ¬ ((n : Int) < 65536) := by omega
        have g4 : (n : Int) ≤ 1114111 := by omega
        have H := Lib.hid (show n ≤ 1114111 ∧ ¬ n < 128 ∧ ¬ n < 2048 ∧ ¬ n < 65536 from ⟨h, h1, h2, h3⟩)
        clear h h1 h2 h3
        go_enter Tryd.func80, Tryd.ntmps80
        go_wp2
        go_ret
        rw [HE.out]
        obtain ⟨h, h1, h2, h3⟩ := H.out
        exact made_new (by simp only [List.map_cons, List.map_nil]; rw [B_ofNat (240 + n / 262144) (240 + (n : Int) / 262144) (by omega) (by omega), B_ofNat (128 + n / 4096 % 64) (128 + (n : Int) / 4096 % 64) (by omega) (by omega), B_ofNat (128 + n / 64 % 64) (128 + (n : Int) / 64 % 64) (by omega) (by omega), B_ofNat (128 + n % 64) (128 + (n : Int) % 64) (by omega) (by omega)]) rfl (by omega)
#print axioms refBytes_any
end Go.Proofs.YtfoalaoanpbmeaaDoor

namespace Go.Proofs.YtfoalaoanpbmeaaDoor
open Go.RowKit

/-- A byte of a list, as a number. -/
def nb (l : List UInt8) (i : Nat) : Int := ((l.getD i 0).toNat : Int)

/-- The number that so many bytes stand for. -/
def vOf (j : Nat) (l : List UInt8) : Int :=
  if j = 1 then nb l 0
  else if j = 2 then (nb l 0 - 192) * 64 + nb l 1 - 128
  else if j = 3 then (nb l 0 - 224) * 4096 + (nb l 1 - 128) * 64 + nb l 2 - 128
  else (nb l 0 - 240) * 262144 + (nb l 1 - 128) * 4096 + (nb l 2 - 128) * 64 + nb l 3 - 128

theorem nb_range (l : List UInt8) (i : Nat) : 0 ≤ nb l i ∧ nb l i ≤ 255 := by
  have := (l.getD i 0).toNat_lt
  unfold nb
  omega

theorem getD_take {l e : List UInt8} {k i : Nat} (h : l.take k = e) (hi : i < k) : l.getD i 0 = e.getD i 0 := by
  rw [← h]
  simp [List.getD_eq_getElem?_getD, hi]

theorem vOf_dec {l : List UInt8} {n j : Nat} (h : decF l = some (n, j)) : vOf j l = (n : Int) := by
  obtain ⟨hm, hk, _, ht⟩ := decF_some h
  have hn := mayF_lt hm
  rw [encF_length] at hk
  by_cases h1 : n < 128
  · rw [if_pos h1] at hk
    subst hk
    unfold encF at ht
    rw [if_pos h1] at ht
    have e0 := getD_take (i := 0) ht (by omega)
    unfold vOf nb
    rw [if_pos rfl, e0]
    simp only [List.getD_cons_zero]
    rw [ofNat_toNat n (by omega)]
  · rw [if_neg h1] at hk
    by_cases h2 : n < 2048
    · rw [if_pos h2] at hk
      subst hk
      unfold encF at ht
      rw [if_neg h1, if_pos h2] at ht
      have e0 := getD_take (i := 0) ht (by omega)
      have e1 := getD_take (i := 1) ht (by omega)
      unfold vOf nb
      rw [if_neg (by omega), if_pos rfl, e0, e1]
      simp only [List.getD_cons_zero, List.getD_cons_succ]
      rw [ofNat_toNat (192 + n / 64) (by omega), ofNat_toNat (128 + n % 64) (by omega)]
      omega
    · rw [if_neg h2] at hk
      by_cases h3 : n < 65536
      · rw [if_pos h3] at hk
        subst hk
        unfold encF at ht
        rw [if_neg h1, if_neg h2, if_pos h3] at ht
        have e0 := getD_take (i := 0) ht (by omega)
        have e1 := getD_take (i := 1) ht (by omega)
        have e2 := getD_take (i := 2) ht (by omega)
        unfold vOf nb
        rw [if_neg (by omega), if_neg (by omega), if_pos rfl, e0, e1, e2]
        simp only [List.getD_cons_zero, List.getD_cons_succ]
        rw [ofNat_toNat (224 + n / 4096) (by omega), ofNat_toNat (128 + n / 64 % 64) (by omega), ofNat_toNat (128 + n % 64) (by omega)]
        omega
      · rw [if_neg h3] at hk
        subst hk
        unfold encF at ht
        rw [if_neg h1, if_neg h2, if_neg h3] at ht
        have e0 := getD_take (i := 0) ht (by omega)
        have e1 := getD_take (i := 1) ht (by omega)
        have e2 := getD_take (i := 2) ht (by omega)
        have e3 := getD_take (i := 3) ht (by omega)
        unfold vOf nb
        rw [if_neg (by omega), if_neg (by omega), if_neg (by omega), e0, e1, e2, e3]
        simp only [List.getD_cons_zero, List.getD_cons_succ]
        rw [ofNat_toNat (240 + n / 262144) (by omega), ofNat_toNat (128 + n / 4096 % 64) (by omega), ofNat_toNat (128 + n / 64 % 64) (by omega), ofNat_toNat (128 + n % 64) (by omega)]
        omega

/-- No rune of less than so many bytes stands there. -/
def NoneTo (l : List UInt8) (j : Nat) : Prop := ∀ i, i < j → ∀ m, decF l ≠ some (m, i)

theorem noneTo_one (l : List UInt8) : NoneTo l 1 := by
  intro i hi m h
  obtain ⟨_, hk, _, _⟩ := decF_some h
  have := encF_pos m
  omega
theorem NoneTo.bad {l : List UInt8} {j : Nat} (h : NoneTo l j) (hv : Lib.validRune (vOf j l) = false) : NoneTo l (j + 1) := by
  intro i hi m hd
  rcases Nat.lt_or_ge i j with h1 | h1
  · exact h i h1 m hd
  · obtain rfl : i = j := by omega
    rw [vOf_dec hd, valid_nat] at hv
    rw [(decF_some hd).1] at hv
    cases hv
theorem NoneTo.ne {l : List UInt8} {j m : Nat} (h : NoneTo l j) (hv : vOf j l = (m : Int)) (hne : l.take j ≠ encF m) : NoneTo l (j + 1) := by
  intro i hi n hd
  rcases Nat.lt_or_ge i j with h1 | h1
  · exact h i h1 n hd
  · obtain rfl : i = j := by omega
    rw [vOf_dec hd] at hv
    obtain rfl : n = m := by omega
    exact hne (decF_some hd).2.2.2
theorem NoneTo.end {l : List UInt8} {j : Nat} (h : NoneTo l j) (hj : j = 5 ∨ l.length < j) : decF l = none := by
  cases hd : decF l with
  | none => rfl
  | some p =>
    obtain ⟨n, k⟩ := p
    obtain ⟨_, hk, hle, _⟩ := decF_some hd
    have := encF_pos n
    exact absurd hd (h k (by omega) n)
theorem dec_found {l : List UInt8} {j m : Nat} (hm : mayF m = true) (hj : j ≤ l.length) (h : l.take j = encF m) : decF l = some (m, j) := by
  have hk : (encF m).length = j := by rw [← h]; simp; omega
  have := decF_of hm (by rw [hk]; exact h)
  rw [hk] at this
  exact this

/-- What the document's One answers. -/
def oneF (l : List UInt8) : Nat × Nat := match decF l with | some p => p | none => (0, 0)

theorem extract_list (s : ByteArray) (p q : Nat) : s.extract p q = strB ((s.data.toList.drop p).take (q - p)) := by
  apply ByteArray.ext
  simp only [strB, ByteArray.data_extract]
  apply Array.ext'
  simp [Array.toList_extract, List.extract]

#print axioms vOf_dec
end Go.Proofs.YtfoalaoanpbmeaaDoor
