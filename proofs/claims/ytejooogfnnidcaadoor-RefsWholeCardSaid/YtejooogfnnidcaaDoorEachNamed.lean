/-
  The walk of each over a name's runes.
-/
import Derived.Test.YtejooogfnnidcaaDoorNamed
import Derived.Test.YtejooogfnnidcaaDoorEachSeen
namespace Go.Proofs.YtejooogfnnidcaaDoor
open Go.RowKit

theorem decR_big {l : List UInt8} {c : UInt8} (hl : l.head? = some c) (hc : 128 ≤ c.toNat) : 128 ≤ (decR l).1 := by
  cases hd : decF l with
  | none => rw [decR_none hd]; decide
  | some q =>
    obtain ⟨n, k⟩ := q
    rw [decR_some hd]
    obtain ⟨hm, hk, hkl, ht⟩ := decF_some hd
    show 128 ≤ n
    apply Classical.byContradiction
    intro h
    have he : encF n = [UInt8.ofNat n] := by unfold encF; rw [if_pos (by omega)]
    rw [he] at hk ht
    simp at hk
    subst hk
    cases l with
    | nil => cases hl
    | cons x r =>
      simp at hl ht
      subst hl
      rw [ht, ofNat_toNat n (by omega)] at hc
      omega
theorem take_all {q : UInt8 → Bool} {l : List UInt8} {p : Nat} (hp : p < l.length) : (l.take (p + 1)).all q = ((l.take p).all q && q (l.getD p 0)) := by
  rw [List.take_succ_eq_append_getElem hp, List.all_append]; simp [hp]
theorem all_no {q : UInt8 → Bool} {l : List UInt8} {p : Nat} (hp : p < l.length) (h : q (l.getD p 0) = false) : l.all q = false := by
  rw [← List.take_append_drop (p + 1) l, List.all_append, take_all hp, h]; simp

def nmB (c : UInt8) : Bool := nameC c.toNat

set_option maxRecDepth 100000 in
set_option maxHeartbeats 400000 in
theorem each_named (s : ByteArray) (w : World) :
    Calls Tryd.prog 67 #[.string s, .func (.func 66) #[] #[]] w fun e w' => e = .returned (.bool (s.data.toList.all nmB)) ∧ Below w.heap.size w w' := by
  have HA := Lib.hid (show (s.data.toList.take 0).all nmB = true from rfl)
  go_enter Tryd.func67, Tryd.ntmps67
  go_wp2
  go_loopg [] s.size (fun g W => ∃ (p : Nat), Below w.heap.size w W ∧ W.heap[w.heap.size]? = some (.stringIter s p) ∧ g + p = s.size ∧ Hid ((s.data.toList.take p).all nmB = true))
  case atStart => exact ⟨0, (Below.refl _ _).alloc (Nat.le_refl _) _, World.iter_heap w s 0, rfl, HA⟩
  case round =>
    obtain ⟨p, hbw, hit, hg, hall⟩ := hrel
    have HG := Lib.hid hg
    by_cases hp : p < s.size
    · have hpl : p < s.data.toList.length := by rw [b_len]; exact hp
      have hat := b_at s p hp
      by_cases h128 : (s[p]'hp).toNat < 128
      · have hnx := fun ty => Lib.run_next_ascii_at (P := Tryd.prog) wr w.heap.size s p ty hit hp h128
        have HIT := Lib.hid (Lib.iterAt_heap wr w.heap.size s p (p + 1) hit)
        have HB2 := Lib.hid (Lib.below_iterAt hbw (k := w.heap.size) (Nat.le_refl _) s (p + 1))
        obtain ⟨n, hn⟩ : ∃ n, n = (s[p]'hp).toNat := ⟨_, rfl⟩
        rw [← hn] at hnx
        obtain ⟨f, hf⟩ : ∃ f, nameC n = f := ⟨_, rfl⟩
        have HC := Lib.hid (fun w => named_is n f w hf)
        have HF := Lib.hid (show nmB (s.data.toList.getD p 0) = f by unfold nmB; rw [← hat, ← hn, hf])
        have HPL := Lib.hid hpl
        clear hg hit hp hf hn hat h128 hpl
        rcases f
        · have HE := Lib.hid (all_no HPL.out HF.out)
          go_wp2_with (go_at_call 66; (with_reducible refine (HC.out _).mono ?_); rintro e w1 ⟨rfl, rfl⟩)
          go_ret
          exact ⟨retBl HE.out.symm, HB2.out⟩
        · have HE := Lib.hid (show (s.data.toList.take (p + 1)).all nmB = true by rw [take_all HPL.out, hall.out, HF.out]; rfl)
          go_wp2_with (go_at_call 66; (with_reducible refine (HC.out _).mono ?_); rintro e w1 ⟨rfl, rfl⟩)
          go_roundg (gk - 1)
          case measure => have := HG.out; have := HPL.out; rw [b_len] at this; omega
          case rel => exact ⟨p + 1, HB2.out, HIT.out, by have := HG.out; have := HPL.out; rw [b_len] at this; omega, HE⟩
      · have hnx0 := fun ty => Lib.run_next_any_at (P := Tryd.prog) wr w.heap.size s p ty hit hp
        rw [decode_drop s p hp] at hnx0
        have hbig : 128 ≤ (decR (s.data.toList.drop p)).1 := decR_big (c := s[p]'hp) (by rw [List.head?_drop, List.getElem?_eq_getElem hpl]; rfl) (by omega)
        obtain ⟨n, hn⟩ : ∃ n, n = (decR (s.data.toList.drop p)).1 := ⟨_, rfl⟩
        obtain ⟨k, hk⟩ : ∃ k, k = (decR (s.data.toList.drop p)).2 := ⟨_, rfl⟩
        rw [← hn, ← hk] at hnx0
        rw [← hn] at hbig
        have hnx := hnx0
        have HB2 := Lib.hid (Lib.below_iterAt hbw (k := w.heap.size) (Nat.le_refl _) s (p + k))
        have HC := Lib.hid (fun w => named_is n false w (by rw [Bool.eq_false_iff]; intro h; have := (nameC_iff n).1 h; omega))
        have HF := Lib.hid (show nmB (s.data.toList.getD p 0) = false by unfold nmB; rw [← hat, Bool.eq_false_iff]; intro h; have := (nameC_iff _).1 h; omega)
        have HE := Lib.hid (all_no hpl HF.out)
        clear hg hit hp hn hk hat h128 hpl hnx0 hbig
        go_wp2_with (go_at_call 66; (with_reducible refine (HC.out _).mono ?_); rintro e w1 ⟨rfl, rfl⟩)
        go_ret
        exact ⟨retBl HE.out.symm, HB2.out⟩
    · have hnx := fun ty => Lib.run_next_end_at (P := Tryd.prog) wr w.heap.size s p ty hit hp
      have HE := Lib.hid (show s.data.toList.all nmB = true by
        have := hall.out
        rw [List.take_of_length_le (by rw [b_len]; omega)] at this
        exact this)
      clear hg hp hit
      go_wp2
      go_ret
      exact ⟨retBl HE.out.symm, hbw⟩
#print axioms each_named
end Go.Proofs.YtejooogfnnidcaaDoor
