/-
  The walks of Cut, the program's and the document's.
-/
import Derived.Test.YtpopjkkihhidjaaDoorUtfRefRunes
import Derived.Test.YtpopjkkihhidjaaDoorUtfText
namespace Go.Proofs.YtpopjkkihhidjaaDoor
open Go.RowKit

/-- What Cut answers. -/
def cutE (l : List UInt8) (from_ to : Int) : List UInt8 × Nat :=
  match runesF l with
  | (none, _) => ([], 5)
  | (some L, _) => if from_ < 0 ∨ to < from_ ∨ (L.length : Int) < to then ([], 1) else (textF ((L.drop from_.toNat).take (to.toNat - from_.toNat)), 0)

theorem TxtIs.mk {l : List UInt8} {c : Nat} {x : ByteArray} {w w' : World} (h : x = strB l) (hb : Below w.heap.size w w') : TxtIs (l, c) w (.returned (.tuple #[.string x, .int .i64 c])) w' := by
  subst h; exact ⟨rfl, hb⟩

theorem cutE_none {l : List UInt8} {p : Nat} {f t : Int} (h : runesF l = (none, p)) : cutE l f t = ([], 5) := by unfold cutE; rw [h]
theorem cutE_arg {l : List UInt8} {L : List Nat} {e : Nat} {f t : Int} (h : runesF l = (some L, e)) (ha : f < 0 ∨ t < f ∨ (L.length : Int) < t) : cutE l f t = ([], 1) := by unfold cutE; rw [h]; simp only; rw [if_pos ha]
theorem cutE_ok {l : List UInt8} {L : List Nat} {e : Nat} {f t : Nat} (h : runesF l = (some L, e)) (hf : f ≤ t) (ht : t ≤ L.length) : cutE l f t = (textF ((L.drop f).take (t - f)), 0) := by
  unfold cutE; rw [h]; simp only; rw [if_neg (by omega), Int.toNat_natCast, Int.toNat_natCast]

/-- Where the rune of a number begins. -/
def posOf (L : List Nat) (j : Nat) : Nat := (textF (L.take j)).length

theorem posOf_all (L : List Nat) : posOf L L.length = (textF L).length := by unfold posOf; rw [List.take_length]
theorem Inv.pos {s : List UInt8} {p e : Nat} {acc L : List Nat} (h : Inv s p acc) (hs : runesF s = (some L, e)) (hp : p ≤ s.length) : p = posOf L acc.length := by
  unfold Inv at h
  rw [hs] at h
  obtain ⟨m, hm, _, hd, _⟩ := runesGo_some _ _ _ _ _ _ h.symm
  have h1 := (runesF_some hs).2.1
  rw [hm, textF_append, ← hd] at h1
  have h2 := congrArg List.length h1
  rw [List.length_append, List.length_drop] at h2
  unfold posOf
  rw [hm, List.take_left]
  omega
theorem cut_text {s : List UInt8} {L : List Nat} {e f t : Nat} (hs : runesF s = (some L, e)) (hf : f ≤ t) :
    (s.drop (posOf L f)).take (posOf L t - posOf L f) = textF ((L.drop f).take (t - f)) ∧ posOf L f ≤ posOf L t ∧ posOf L t ≤ s.length := by
  have h1 := (runesF_some hs).2.1
  have e1 : L = L.take f ++ ((L.drop f).take (t - f) ++ L.drop t) := by
    have a1 := (List.take_append_drop f L).symm
    have a2 := (List.take_append_drop (t - f) (L.drop f)).symm
    rw [List.drop_drop, show f + (t - f) = t from by omega] at a2
    rw [← a2]
    exact a1
  have e2 : L.take t = L.take f ++ (L.drop f).take (t - f) := by
    have := List.take_add (l := L) (i := f) (j := t - f)
    rw [show f + (t - f) = t from by omega] at this
    exact this
  have p2 : posOf L t = posOf L f + (textF ((L.drop f).take (t - f))).length := by
    unfold posOf; rw [e2, textF_append, List.length_append]
  have h3 : s = textF (L.take f) ++ (textF ((L.drop f).take (t - f)) ++ textF (L.drop t)) := by
    rw [← textF_append, ← textF_append, ← e1]; exact h1
  refine ⟨?_, by omega, ?_⟩
  · rw [p2, show posOf L f + (textF ((L.drop f).take (t - f))).length - posOf L f = (textF ((L.drop f).take (t - f))).length from by omega, h3]
    unfold posOf
    rw [List.drop_left, List.take_left]
  · rw [p2, h3]
    unfold posOf
    simp only [List.length_append]
    omega

theorem count_some (s : ByteArray) (L : List Nat) (e0 : Nat) (w : World) (hs : s.size ≤ 140737488355328) (hT : Tabs w) (h : runesF s.data.toList = (some L, e0)) :
    Calls Tryd.prog 20 #[.string s] w fun e w' => e = .returned (.tuple #[.int .i64 L.length, .int .i64 0]) ∧ Below w.heap.size w w' :=
  (count_any s w hs hT).mono fun _ _ h1 => ⟨h1.1.trans (by rw [cntE_some h]; rfl), h1.2⟩
theorem count_none (s : ByteArray) (p : Nat) (w : World) (hs : s.size ≤ 140737488355328) (hT : Tabs w) (h : runesF s.data.toList = (none, p)) :
    Calls Tryd.prog 20 #[.string s] w fun e w' => e = .returned (.tuple #[.int .i64 0, .int .i64 5]) ∧ Below w.heap.size w w' :=
  (count_any s w hs hT).mono fun _ _ h1 => ⟨h1.1.trans (by rw [cntE_none h]; rfl), h1.2⟩

set_option maxRecDepth 100000 in
set_option maxHeartbeats 1000000 in
theorem cut_bad (s : ByteArray) (f t : Int) (w : World) (hs : s.size ≤ 140737488355328) (hT : Tabs w) (p : Nat) (h : runesF s.data.toList = (none, p)) :
    Calls Tryd.prog 24 #[.string s, .int .i64 f, .int .i64 t] w (TxtIs (cutE s.data.toList f t) w) := by
  have HC := Lib.hid (count_none s p w hs hT h)
  have HE := Lib.hid (cutE_none (f := f) (t := t) h)
  clear h hs hT
  go_enter Tryd.func24, Tryd.ntmps24
  go_wp2_with (go_at_call 20; go_must (refine HC.out.mono ?_); rintro e w1 ⟨rfl, hb⟩)
  go_ret2
  rw [HE.out]
  exact ⟨rfl, hb⟩

set_option maxRecDepth 100000 in
set_option maxHeartbeats 1000000 in
theorem cut_arg (s : ByteArray) (f t : Int) (w : World) (hs : s.size ≤ 140737488355328) (hT : Tabs w) (L : List Nat) (e0 : Nat) (h : runesF s.data.toList = (some L, e0)) (ha : f < 0 ∨ t < f ∨ (L.length : Int) < t) :
    Calls Tryd.prog 24 #[.string s, .int .i64 f, .int .i64 t] w (TxtIs (cutE s.data.toList f t) w) := by
  have HC := Lib.hid (count_some s L _ w hs hT h)
  have HE := Lib.hid (cutE_arg h ha)
  clear h hs hT
  obtain ⟨N, hN⟩ : ∃ N : Int, N = (L.length : Int) := ⟨_, rfl⟩
  rw [← hN] at HC ha
  clear hN
  by_cases h1 : f < 0
  · clear ha
    go_enter Tryd.func24, Tryd.ntmps24
    go_wp2_with (go_at_call 20; go_must (refine HC.out.mono ?_); rintro e w1 ⟨rfl, hb⟩)
    go_ret2
    rw [HE.out]
    exact ⟨rfl, hb⟩
  · by_cases h2 : t < f
    · have d1 : decide (f < 0) = false := decide_eq_false h1
      clear ha h1
      go_enter Tryd.func24, Tryd.ntmps24
      go_wp2_with (go_at_call 20; go_must (refine HC.out.mono ?_); rintro e w1 ⟨rfl, hb⟩)
      go_ret2
      rw [HE.out]
      exact ⟨rfl, hb⟩
    · have h3 : N < t := by omega
      have d1 : decide (f < 0) = false := decide_eq_false h1
      have d2 : decide (t < f) = false := decide_eq_false h2
      clear ha h1 h2
      go_enter Tryd.func24, Tryd.ntmps24
      go_wp2_with (go_at_call 20; go_must (refine HC.out.mono ?_); rintro e w1 ⟨rfl, hb⟩)
      go_ret2
      rw [HE.out]
      exact ⟨rfl, hb⟩

/-- Where a number's rune begins, as far as it has been looked for. -/
def at_ (L : List Nat) (S j f : Nat) : Nat := if f < j then posOf L f else S

theorem at_hit {L : List Nat} {S j f : Nat} (h : j = f) : at_ L S (j + 1) f = posOf L f := by unfold at_; rw [if_pos (by omega)]
theorem at_miss {L : List Nat} {S j f : Nat} (h : j ≠ f) : at_ L S (j + 1) f = at_ L S j f := by
  unfold at_
  by_cases h1 : f < j
  · rw [if_pos (by omega), if_pos h1]
  · rw [if_neg (by omega), if_neg h1]
theorem at_end {L : List Nat} {S f : Nat} (hS : S = posOf L L.length) (h : f ≤ L.length) : at_ L S L.length f = posOf L f := by
  unfold at_
  by_cases h1 : f < L.length
  · rw [if_pos h1]
  · rw [if_neg h1, hS, show f = L.length from by omega]

set_option maxRecDepth 100000 in
set_option maxHeartbeats 2000000 in
theorem cut_ok (s : ByteArray) (f t : Nat) (w : World) (hs : s.size ≤ 140737488355328) (hT : Tabs w) (L : List Nat) (e0 : Nat) (h : runesF s.data.toList = (some L, e0)) (hf : f ≤ t) (ht : t ≤ L.length) :
    Calls Tryd.prog 24 #[.string s, .int .i64 (f : Int), .int .i64 (t : Int)] w (TxtIs (cutE s.data.toList f t) w) := by
  have HC := Lib.hid (count_some s L _ w hs hT h)
  have HE := Lib.hid (cutE_ok h hf ht)
  have hll := runesF_len h
  rw [str_len] at hll
  have HL := Lib.hid h
  have HLL := Lib.hid hll
  have hsI : (s.size : Int) ≤ 140737488355328 := by omega
  have HI := Lib.hid (Inv.start s.data.toList)
  obtain ⟨N, hN⟩ : ∃ N : Int, N = (L.length : Int) := ⟨_, rfl⟩
  rw [← hN] at HC
  have i1 : (0 : Int) ≤ (f : Int) := by omega
  have i2 : (f : Int) ≤ (t : Int) := by omega
  have i3 : (t : Int) ≤ N := by omega
  have i4 : N ≤ (s.size : Int) := by omega
  have HF := Lib.hid (show f ≤ t ∧ t ≤ L.length from ⟨hf, ht⟩)
  have HCT := Lib.hid (cut_text h hf)
  have HSP := Lib.hid (show s.size = posOf L L.length by rw [posOf_all, ← (runesF_some h).2.1, str_len])
  clear hN h hs hT hll hf ht
  go_enter Tryd.func24, Tryd.ntmps24
  go_wp2_with (go_at_call 20; go_must (refine HC.out.mono ?_); rintro e w1 ⟨rfl, hb⟩)
  go_loopg [10, 11, 12] s.size (fun g v10 v11 v12 W => ∃ (p : Nat) (acc : List Nat), Below w.heap.size w W ∧ W.heap[w1.heap.size]? = some (.stringIter s p) ∧ v12 = .int .i64 acc.length ∧ v10 = .int .i64 (at_ L s.size acc.length f) ∧ v11 = .int .i64 (at_ L s.size acc.length t) ∧ g + p = s.size ∧ Hid (Inv s.data.toList p acc))
  case atStart =>
    refine ⟨0, [], hb.alloc hb.size _, ?_, rfl, ?_, ?_, rfl, HI⟩
    · exact World.iter_heap w1 s 0
    · unfold at_; rw [if_neg (by simp)]
    · unfold at_; rw [if_neg (by simp)]
  case round =>
    obtain ⟨p, acc, hbw, hit, rfl, rfl, rfl, hg, hinv⟩ := hrel
    have HG := Lib.hid hg
    have hacc : acc.length ≤ s.size := by
      obtain ⟨m, hm⟩ := hinv.out.pre HL.out
      have := HLL.out
      rw [hm, List.length_append] at this
      omega
    have hacc' : (acc.length : Int) ≤ 140737488355328 := by omega
    have HPOS := Lib.hid (hinv.out.pos HL.out (by rw [str_len]; omega))
    obtain ⟨A1, hA1⟩ : ∃ A : Int, A = ((at_ L s.size acc.length f : Nat) : Int) := ⟨_, rfl⟩
    obtain ⟨A2, hA2⟩ : ∃ A : Int, A = ((at_ L s.size acc.length t : Nat) : Int) := ⟨_, rfl⟩
    rw [← hA1, ← hA2]
    have H1 := Lib.hid hA1
    have H2 := Lib.hid hA2
    obtain ⟨J, hJ⟩ : ∃ J : Int, J = (acc.length : Int) := ⟨_, rfl⟩
    rw [← hJ] at hacc' ⊢
    have HJ := Lib.hid hJ
    have hJ0 : 0 ≤ J := by omega
    have HA := Lib.hid hacc
    clear hacc hA1 hA2 hJ
    by_cases hp : p < s.size
    · obtain ⟨n, k, hd⟩ := hinv.out.more HL.out (by rw [str_len]; exact hp)
      obtain ⟨hn, hk1, hk4, hkl⟩ := dec_bounds hd
      have HK := Lib.hid (show 1 ≤ k ∧ k ≤ s.size - p from ⟨hk1, by simpa using hkl⟩)
      have HI2 := Lib.hid (hinv.out.step hd)
      have hnx := fun ty => next_rune wr w1.heap.size s p n k ty hit hp hd
      have HIT := Lib.hid (Lib.iterAt_heap wr w1.heap.size s p (p + k) hit)
      have HB2 := Lib.hid (Lib.below_iterAt hbw (k := w1.heap.size) hb.size s (p + k))
      clear hd hg hn hk1 hk4 hkl hit hp
      by_cases e1 : J = (f : Int)
      · have E1 := Lib.hid e1
        have d1 : (J == (f : Int)) = true := by simpa using e1
        by_cases e2 : J = (t : Int)
        · have E2 := Lib.hid e2
          have d2 : (J == (t : Int)) = true := by simpa using e2
          clear e1 e2
          go_wp2
          go_roundg (gk - k)
          case measure => have := HG.out; have := HK.out; omega
          case rel => exact ⟨p + k, _, HB2.out, HIT.out, by rw [List.length_append, HJ.out]; rfl, by rw [List.length_append, List.length_singleton, at_hit (by have := HJ.out; have := E1.out; omega), HPOS.out, show acc.length = f from by have := HJ.out; have := E1.out; omega], by rw [List.length_append, List.length_singleton, at_hit (by have := HJ.out; have := E2.out; omega), HPOS.out, show acc.length = t from by have := HJ.out; have := E2.out; omega], by have := HG.out; have := HK.out; omega, HI2⟩
        · have E2 := Lib.hid e2
          have d2 : (J == (t : Int)) = false := by simpa using e2
          clear e1 e2
          go_wp2
          go_roundg (gk - k)
          case measure => have := HG.out; have := HK.out; omega
          case rel => exact ⟨p + k, _, HB2.out, HIT.out, by rw [List.length_append, HJ.out]; rfl, by rw [List.length_append, List.length_singleton, at_hit (by have := HJ.out; have := E1.out; omega), HPOS.out, show acc.length = f from by have := HJ.out; have := E1.out; omega], by rw [List.length_append, List.length_singleton, at_miss (by have := HJ.out; have := E2.out; omega), H2.out], by have := HG.out; have := HK.out; omega, HI2⟩
      · have E1 := Lib.hid e1
        have d1 : (J == (f : Int)) = false := by simpa using e1
        by_cases e2 : J = (t : Int)
        · have E2 := Lib.hid e2
          have d2 : (J == (t : Int)) = true := by simpa using e2
          clear e1 e2
          go_wp2
          go_roundg (gk - k)
          case measure => have := HG.out; have := HK.out; omega
          case rel => exact ⟨p + k, _, HB2.out, HIT.out, by rw [List.length_append, HJ.out]; rfl, by rw [List.length_append, List.length_singleton, at_miss (by have := HJ.out; have := E1.out; omega), H1.out], by rw [List.length_append, List.length_singleton, at_hit (by have := HJ.out; have := E2.out; omega), HPOS.out, show acc.length = t from by have := HJ.out; have := E2.out; omega], by have := HG.out; have := HK.out; omega, HI2⟩
        · have E2 := Lib.hid e2
          have d2 : (J == (t : Int)) = false := by simpa using e2
          clear e1 e2
          go_wp2
          go_roundg (gk - k)
          case measure => have := HG.out; have := HK.out; omega
          case rel => exact ⟨p + k, _, HB2.out, HIT.out, by rw [List.length_append, HJ.out]; rfl, by rw [List.length_append, List.length_singleton, at_miss (by have := HJ.out; have := E1.out; omega), H1.out], by rw [List.length_append, List.length_singleton, at_miss (by have := HJ.out; have := E2.out; omega), H2.out], by have := HG.out; have := HK.out; omega, HI2⟩
    · have hnx := fun ty => Lib.run_next_end_at (P := Tryd.prog) wr w1.heap.size s p ty hit hp
      have he := hinv.out.done (by rw [str_len]; omega)
      rw [HL.out] at he
      have hX : acc = L := by simpa using (congrArg (·.1) he).symm
      have hct := HCT.out
      have hff := HF.out
      have a1 : A1 = ((posOf L f : Nat) : Int) := by rw [H1.out, hX, at_end HSP.out (by omega)]
      have a2 : A2 = ((posOf L t : Nat) : Int) := by rw [H2.out, hX, at_end HSP.out hff.2]
      have q1 : 0 ≤ A1 := by omega
      have q2 : A1 ≤ A2 := by omega
      have q3 : A2 ≤ (s.size : Int) := by have := hct.2.2; rw [str_len] at this; omega
      have hx : s.extract A1.toNat A2.toNat = strB (textF ((L.drop f).take (t - f))) := by rw [extract_list, a1, a2, Int.toNat_natCast, Int.toNat_natCast, hct.1]
      have HX := Lib.hid hx
      clear he hg hp hit hX hct hff a1 a2 hx
      go_wp2
      go_ret2
      rw [HE.out]
      exact TxtIs.mk HX.out hbw
#print axioms cut_ok

theorem cut_any (s : ByteArray) (f t : Int) (w : World) (hs : s.size ≤ 140737488355328) (hT : Tabs w) :
    Calls Tryd.prog 24 #[.string s, .int .i64 f, .int .i64 t] w (TxtIs (cutE s.data.toList f t) w) := by
  rcases runesF_cases s.data.toList with ⟨L, hL⟩ | ⟨p, hL⟩
  · by_cases ha : f < 0 ∨ t < f ∨ (L.length : Int) < t
    · exact cut_arg s f t w hs hT L _ hL ha
    · obtain ⟨f', rfl⟩ := Int.eq_ofNat_of_zero_le (show 0 ≤ f by omega)
      obtain ⟨t', rfl⟩ := Int.eq_ofNat_of_zero_le (show 0 ≤ t by omega)
      exact cut_ok s f' t' w hs hT L _ hL (by omega) (by omega)
  · exact cut_bad s f t w hs hT p hL
end Go.Proofs.YtpopjkkihhidjaaDoor
