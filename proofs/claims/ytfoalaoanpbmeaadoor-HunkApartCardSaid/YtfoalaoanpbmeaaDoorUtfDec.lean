/-
  The library's own decoding, as the plain one: what stands at the beginning of some bytes.
-/
import Derived.Test.YtfoalaoanpbmeaaDoorUtfMath
import Derived.Lib.DecodeN
import Derived.Shelf.Unicode.DecodeAny
namespace Go.Proofs.YtfoalaoanpbmeaaDoor

/-- A rune and its width, as the library tells them. -/
def decR (l : List UInt8) : Nat × Nat := match decF l with | some p => p | none => (65533, 1)

theorem contF_false (c : UInt8) (h : ¬ c.toNat / 64 = 2) : contF c = false := by
  have := c.toNat_lt
  cases hc : contF c with
  | false => rfl
  | true => rw [contF_iff] at hc; omega
theorem contF_true (c : UInt8) (h : c.toNat / 64 = 2) : contF c = true := by
  rw [contF_iff]; omega

theorem decN_any (a b c d : UInt8) (n : Nat) (r : List UInt8) (hn : 1 ≤ n) (h1 : n = 1 → r = []) (h2 : n = 2 → r = [b]) (h3 : n = 3 → r = [b, c]) (h4 : 4 ≤ n → ∃ t, r = b :: c :: d :: t) :
    Lib.decodeN n a.toNat b.toNat c.toNat d.toNat = decR (a :: r) := by
  have ha := a.toNat_lt
  have hb := b.toNat_lt
  have hc := c.toNat_lt
  have hd := d.toNat_lt
  unfold Lib.decodeN decR
  rw [decF.eq_def]
  dsimp only
  by_cases e1 : a.toNat < 128
  · rw [if_pos e1, if_pos e1]
  · rw [if_neg e1, if_neg e1]
    by_cases e2 : a.toNat < 194
    · rw [if_pos e2]
      by_cases e6 : a.toNat / 32 = 6 ∧ (1 < n ∧ b.toNat / 64 = 2)
      · rw [if_pos e6, if_neg (by omega)]
      · rw [if_neg e6, if_neg (by omega), if_neg (by omega)]
    · rw [if_neg e2]
      by_cases e3 : a.toNat < 224
      · rw [if_pos e3]
        by_cases e7 : 1 < n ∧ b.toNat / 64 = 2
        · rw [if_pos ⟨by omega, e7⟩, if_pos (by omega)]
          obtain ⟨t, rfl⟩ : ∃ t, r = b :: t := by
            rcases Nat.lt_trichotomy n 3 with h | h | h
            · exact ⟨[], h2 (by omega)⟩
            · exact ⟨[c], h3 h⟩
            · obtain ⟨t, rfl⟩ := h4 (by omega); exact ⟨_, rfl⟩
          simp only [contF_true b e7.2, if_true]
          rw [show a.toNat % 32 * 64 + b.toNat % 64 = (a.toNat - 192) * 64 + (b.toNat - 128) from by omega]
        · rw [if_neg (by omega), if_neg (by omega), if_neg (by omega)]
          by_cases hn1 : n = 1
          · rw [h1 hn1]
          · obtain ⟨t, rfl⟩ : ∃ t, r = b :: t := by
              rcases Nat.lt_trichotomy n 3 with h | h | h
              · exact ⟨[], h2 (by omega)⟩
              · exact ⟨[c], h3 h⟩
              · obtain ⟨t, rfl⟩ := h4 (by omega); exact ⟨_, rfl⟩
            simp only [contF_false b (by omega), Bool.false_eq_true, if_false]
      · rw [if_neg e3, if_neg (by omega)]
        by_cases e4 : a.toNat < 240
        · rw [if_pos e4]
          by_cases e7 : (1 < n ∧ b.toNat / 64 = 2) ∧ (2 < n ∧ c.toNat / 64 = 2)
          · rw [if_pos ⟨by omega, e7⟩]
            obtain ⟨t, rfl⟩ : ∃ t, r = b :: c :: t := by
              rcases Nat.lt_or_ge n 4 with h | h
              · exact ⟨[], h3 (by omega)⟩
              · obtain ⟨t, rfl⟩ := h4 h; exact ⟨_, rfl⟩
            simp only [contF_true b e7.1.2, contF_true c e7.2.2, true_and, mayF_iff]
            rw [show a.toNat % 16 * 4096 + b.toNat % 64 * 64 + c.toNat % 64 = (a.toNat - 224) * 4096 + (b.toNat - 128) * 64 + (c.toNat - 128) from by omega]
            by_cases hv : 2048 ≤ (a.toNat - 224) * 4096 + (b.toNat - 128) * 64 + (c.toNat - 128) ∧ ((a.toNat - 224) * 4096 + (b.toNat - 128) * 64 + (c.toNat - 128) < 55296 ∨ (57344 ≤ (a.toNat - 224) * 4096 + (b.toNat - 128) * 64 + (c.toNat - 128) ∧ (a.toNat - 224) * 4096 + (b.toNat - 128) * 64 + (c.toNat - 128) ≤ 1114111))
            · rw [if_pos (by omega), if_pos (by omega)]
            · rw [if_neg (by omega), if_neg (by omega)]
          · rw [if_neg (by omega), if_neg (by omega)]
            match r, h1, h2, h3, h4 with
            | [], _, _, _, _ => rfl
            | [_], _, _, _, _ => rfl
            | x :: y :: t, h1, h2, h3, h4 =>
              have hxy : x = b ∧ y = c ∧ 2 < n := by
                rcases Nat.lt_trichotomy n 2 with h | h | h
                · exact absurd (h1 (by omega)) (by simp)
                · exact absurd (h2 h) (by simp)
                · rcases Nat.lt_or_ge n 4 with h' | h'
                  · have := h3 (by omega); simp at this; exact ⟨this.1, this.2.1, h⟩
                  · obtain ⟨t', ht⟩ := h4 h'; simp at ht; exact ⟨ht.1, ht.2.1, h⟩
              obtain ⟨rfl, rfl, h2n⟩ := hxy
              by_cases hbb : x.toNat / 64 = 2
              · simp only [contF_false y (by omega), Bool.false_eq_true, false_and, and_false, if_false]
              · simp only [contF_false x hbb, Bool.false_eq_true, false_and, if_false]
        · rw [if_neg e4, if_neg (by omega)]
          by_cases e7 : (1 < n ∧ b.toNat / 64 = 2) ∧ (2 < n ∧ c.toNat / 64 = 2) ∧ (3 < n ∧ d.toNat / 64 = 2)
          · obtain ⟨t, rfl⟩ := h4 (by omega)
            simp only [contF_true b e7.1.2, contF_true c e7.2.1.2, contF_true d e7.2.2.2, true_and]
            by_cases e8 : a.toNat / 8 = 30
            · rw [if_pos ⟨e8, e7⟩]
              rw [show a.toNat % 8 * 262144 + b.toNat % 64 * 4096 + c.toNat % 64 * 64 + d.toNat % 64 = (a.toNat - 240) * 262144 + (b.toNat - 128) * 4096 + (c.toNat - 128) * 64 + (d.toNat - 128) from by omega]
              by_cases hv : 65536 ≤ (a.toNat - 240) * 262144 + (b.toNat - 128) * 4096 + (c.toNat - 128) * 64 + (d.toNat - 128) ∧ (a.toNat - 240) * 262144 + (b.toNat - 128) * 4096 + (c.toNat - 128) * 64 + (d.toNat - 128) ≤ 1114111
              · rw [if_pos (by omega), if_pos (by omega)]
              · rw [if_neg (by omega), if_neg (by omega)]
            · rw [if_neg (by omega), if_neg (by omega)]
          · rw [if_neg (by omega)]
            match r, h1, h2, h3, h4 with
            | [], _, _, _, _ => rfl
            | [_], _, _, _, _ => rfl
            | [_, _], _, _, _, _ => rfl
            | x :: y :: z :: t, h1, h2, h3, h4 =>
              have hxy : 4 ≤ n := by
                rcases Nat.lt_or_ge n 4 with h' | h'
                · have : n = 1 ∨ n = 2 ∨ n = 3 := by omega
                  rcases this with h | h | h
                  · exact absurd (h1 h) (by simp)
                  · exact absurd (h2 h) (by simp)
                  · exact absurd (h3 h) (by simp)
                · exact h'
              obtain ⟨t', ht⟩ := h4 hxy
              simp only [List.cons.injEq] at ht
              obtain ⟨rfl, rfl, rfl, rfl⟩ := ht
              by_cases hbb : x.toNat / 64 = 2
              · by_cases hcc : y.toNat / 64 = 2
                · simp only [contF_false z (by omega), Bool.false_eq_true, false_and, and_false, if_false]
                · simp only [contF_false y hcc, Bool.false_eq_true, false_and, and_false, if_false]
              · simp only [contF_false x hbb, Bool.false_eq_true, false_and, if_false]

theorem get!_drop (s : ByteArray) (pos i : Nat) : s.get! (pos + i) = (s.data.toList.drop pos).getD i 0 := by
  by_cases h : pos + i < s.size
  · have h' : pos + i < s.data.size := h
    show s.data[pos + i]! = _
    rw [getElem!_pos s.data (pos + i) h', List.getD_eq_getElem?_getD, List.getElem?_drop]
    simp only [Array.getElem?_toList]
    rw [Array.getElem?_eq_getElem h']
    rfl
  · have h' : ¬ pos + i < s.data.size := h
    show s.data[pos + i]! = _
    rw [getElem!_neg s.data (pos + i) h', List.getD_eq_getElem?_getD, List.getElem?_drop, List.getElem?_eq_none (by simpa using h')]
    rfl

/-- What the model's own decoding tells at a place. -/
theorem decode_drop (s : ByteArray) (pos : Nat) (h : pos < s.size) : Utf8.decode s pos = decR (s.data.toList.drop pos) := by
  rw [Lib.decode_at]
  have e0 := get!_drop s pos 0
  rw [Nat.add_zero] at e0
  rw [e0, get!_drop s pos 1, get!_drop s pos 2, get!_drop s pos 3]
  have hl : (s.data.toList.drop pos).length = s.size - pos := by simp
  generalize s.data.toList.drop pos = l at hl
  cases l with
  | nil => simp at hl; omega
  | cons a r =>
    simp only [List.getD_cons_zero, List.getD_cons_succ]
    rw [List.length_cons] at hl
    refine decN_any a _ _ _ _ r (by omega) (fun h1 => List.length_eq_zero_iff.1 (by omega)) (fun h2 => ?_) (fun h3 => ?_) (fun h4 => ?_)
    · match r, hl with
      | [x], _ => rfl
      | [], hl => simp at hl; omega
      | _ :: _ :: _, hl => simp at hl; omega
    · match r, hl with
      | [x, y], _ => rfl
      | [], hl => simp at hl; omega
      | [_], hl => simp at hl; omega
      | _ :: _ :: _ :: _, hl => simp at hl; omega
    · match r, hl with
      | x :: y :: z :: t, _ => exact ⟨t, rfl⟩
      | [], hl => simp at hl; omega
      | [_], hl => simp at hl; omega
      | [_, _], hl => simp at hl; omega

theorem decodeGo_eq (s : ByteArray) (h : 0 < s.size) : Lib.decodeGo s = decR s.data.toList := by
  unfold Lib.decodeGo
  rw [if_neg (by omega), decode_drop s 0 h, List.drop_zero]

theorem decR_some {l : List UInt8} {n k : Nat} (h : decF l = some (n, k)) : decR l = (n, k) := by unfold decR; rw [h]
theorem decR_none {l : List UInt8} (h : decF l = none) : decR l = (65533, 1) := by unfold decR; rw [h]

/-- A rune of its own of one byte is no 65533. -/
theorem decF_one {l : List UInt8} {n : Nat} (h : decF l = some (n, 1)) : n < 128 := by
  obtain ⟨_, hk, _, _⟩ := decF_some h
  rw [encF_length] at hk
  repeat' split at hk
  all_goals omega
#print axioms decode_drop
end Go.Proofs.YtfoalaoanpbmeaaDoor
