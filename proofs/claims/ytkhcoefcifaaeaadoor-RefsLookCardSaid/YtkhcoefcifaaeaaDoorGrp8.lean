/-
  Merged: UtfInv, UtfCheck, UtfNext, PathSmall, Named, EachSeen, EachNamed, Name.
-/
import Derived.Test.YtkhcoefcifaaeaaDoorGrp5
import Derived.Test.YtkhcoefcifaaeaaDoorGrp6
import Derived.Lib.OthersKept
import Derived.Test.YtkhcoefcifaaeaaDoorGrp7
namespace Go.Proofs.YtkhcoefcifaaeaaDoor

/-- So far these runes stand there, and so many bytes are read. -/
def Inv (l : List UInt8) (p : Nat) (acc : List Nat) : Prop := runesF l = runesGo l.length p acc (l.drop p)

theorem Inv.start (l : List UInt8) : Inv l 0 [] := by unfold Inv runesF; rw [List.drop_zero]
theorem Inv.step {l : List UInt8} {p n k : Nat} {acc : List Nat} (h : Inv l p acc) (hd : decF (l.drop p) = some (n, k)) : Inv l (p + k) (acc ++ [n]) := by
  unfold Inv at h ⊢
  rw [h, runesGo_step (by simp) hd, List.drop_drop]
theorem Inv.stop {l : List UInt8} {p : Nat} {acc : List Nat} (h : Inv l p acc) (hp : p < l.length) (hd : decF (l.drop p) = none) : runesF l = (none, p) := by
  unfold Inv at h
  rw [h, runesGo_stop (fun e => by have := congrArg List.length e; simp at this; omega) hd]
theorem Inv.done {l : List UInt8} {p : Nat} {acc : List Nat} (h : Inv l p acc) (hp : l.length ≤ p) : runesF l = (some acc, p) := by
  unfold Inv at h
  rw [h, List.drop_eq_nil_of_le hp, runesGo_nil]
theorem Inv.more {l L : List Nat} {s : List UInt8} {p e : Nat} (h : Inv s p l) (hs : runesF s = (some L, e)) (hp : p < s.length) : ∃ n k, decF (s.drop p) = some (n, k) := by
  cases hd : decF (s.drop p) with
  | none => rw [h.stop hp hd] at hs; simp at hs
  | some q => exact ⟨q.1, q.2, rfl⟩

/-- As many runes as have been read are the first of all. -/
theorem Inv.pre {s : List UInt8} {p e : Nat} {acc L : List Nat} (h : Inv s p acc) (hs : runesF s = (some L, e)) : ∃ m, L = acc ++ m := by
  unfold Inv at h
  rw [hs] at h
  obtain ⟨m, hm, _⟩ := runesGo_some _ _ _ _ _ _ h.symm
  exact ⟨m, hm⟩

/-- What Check answers. -/
def chkE (l : List UInt8) : Nat × Nat := match runesF l with | (some _, _) => (0, 0) | (none, p) => (p, 5)
theorem chkE_some {l : List UInt8} {L : List Nat} {e : Nat} (h : runesF l = (some L, e)) : chkE l = (0, 0) := by unfold chkE; rw [h]
theorem chkE_none {l : List UInt8} {p : Nat} (h : runesF l = (none, p)) : chkE l = (p, 5) := by unfold chkE; rw [h]
theorem runesF_cases (l : List UInt8) : (∃ L, runesF l = (some L, l.length)) ∨ ∃ p, runesF l = (none, p) := by
  rcases h : runesF l with ⟨_ | L, e⟩
  · exact .inr ⟨e, rfl⟩
  · have := (runesF_some h).2.2
    subst this
    exact .inl ⟨L, rfl⟩
theorem runesF_len {l : List UInt8} {L : List Nat} {e : Nat} (h : runesF l = (some L, e)) : L.length ≤ l.length := by
  obtain ⟨hm, hl, _⟩ := runesF_some h
  rw [hl]
  clear h hl
  induction L with
  | nil => simp
  | cons n L ih =>
    have e1 : textF (n :: L) = encF n ++ textF L := rfl
    rw [e1, List.length_append, List.length_cons]
    have := encF_pos n
    have := ih (fun x hx => hm x (by simp [hx]))
    omega
#print axioms runesF_len
end Go.Proofs.YtkhcoefcifaaeaaDoor

namespace Go.Proofs.YtkhcoefcifaaeaaDoor
open Go.RowKit

def ChkIs (r : Nat × Nat) (w : World) (e : Ending) (w' : World) : Prop := e = .returned (.tuple #[.int .i64 r.1, .int .i64 r.2]) ∧ Below w.heap.size w w'

/-- Decode at a rune; at none. -/
theorem decode_some (s : ByteArray) (p n k : Nat) (V Z : Int) (w : World) (hs : s.size ≤ 140737488355328) (hT : Tabs w) (hp : p < s.size) (hd : decF (s.data.toList.drop p) = some (n, k)) (hV : V = (n : Int)) (hZ : Z = (p : Int) + (k : Int)) :
    Calls Tryd.prog 69 #[.string s, .int .i64 (p : Int)] w fun e w' => e = .returned (.tuple #[.int .i32 V, .int .i64 Z, .int .i64 0]) ∧ Below w.heap.size w w' :=
  (decode_any s p w hs hT).mono fun _ _ h => ⟨h.1.trans (by rw [decE_some (by rw [str_len]; exact hp) hd, hV, hZ]; rfl), h.2⟩
theorem decode_none (s : ByteArray) (p : Nat) (w : World) (hs : s.size ≤ 140737488355328) (hT : Tabs w) (hp : p < s.size) (hd : decF (s.data.toList.drop p) = none) :
    Calls Tryd.prog 69 #[.string s, .int .i64 (p : Int)] w fun e w' => e = .returned (.tuple #[.int .i32 0, .int .i64 0, .int .i64 5]) ∧ Below w.heap.size w w' :=
  (decode_any s p w hs hT).mono fun _ _ h => ⟨h.1.trans (by rw [decE_none (by rw [str_len]; exact hp) hd]; rfl), h.2⟩

set_option maxRecDepth 100000 in
set_option maxHeartbeats 1000000 in
theorem check_any (s : ByteArray) (w : World) (hs : s.size ≤ 140737488355328) (hT : Tabs w) :
    Calls Tryd.prog 59 #[.string s] w (ChkIs (chkE s.data.toList) w) := by
  have hsI : (s.size : Int) ≤ 140737488355328 := by omega
  have HS := Lib.hid hs
  have HT := Lib.hid hT
  have HI := Lib.hid (Inv.start s.data.toList)
  clear hT hs
  go_enter Tryd.func59, Tryd.ntmps59
  go_wp2
  go_loopg [2] s.size (fun g v2 W => ∃ (p : Nat) (acc : List Nat), Below w.heap.size w W ∧ v2 = .int .i64 p ∧ g + p = s.size ∧ Hid (Inv s.data.toList p acc))
  case atStart => exact ⟨0, [], Below.refl _ _, rfl, rfl, HI⟩
  case round =>
    obtain ⟨p, acc, hbw, rfl, hg, hinv⟩ := hrel
    have HG := Lib.hid hg
    have HTW := Lib.hid (HT.out.below hbw)
    have hpI2 : (p : Int) ≤ (s.size : Int) := by omega
    by_cases hp : (p : Int) < (s.size : Int)
    · cases hd : decF (s.data.toList.drop p) with
      | none =>
        have HE := Lib.hid (chkE_none (hinv.out.stop (by rw [str_len]; omega) hd))
        have HC := Lib.hid (decode_none s p wr HS.out HTW.out (by omega) hd)
        clear hd hg
        go_wp2_with (go_at_call 69; go_must (refine HC.out.mono ?_); rintro e w1 ⟨rfl, hb⟩)
        go_ret2
        rw [HE.out]
        exact ⟨rfl, hbw.trans (hb.mono hbw.size)⟩
      | some q =>
        obtain ⟨n, k⟩ := q
        obtain ⟨hn, hk1, hk4, hkl⟩ := dec_bounds hd
        have HK := Lib.hid (show 1 ≤ k ∧ k ≤ s.size - p from ⟨hk1, by simpa using hkl⟩)
        have HI2 := Lib.hid (hinv.out.step hd)
        obtain ⟨V, hV⟩ : ∃ V : Int, V = (n : Int) := ⟨_, rfl⟩
        obtain ⟨Z, hZ⟩ : ∃ Z : Int, Z = (p : Int) + (k : Int) := ⟨_, rfl⟩
        have HZ := Lib.hid hZ
        have HC := Lib.hid (decode_some s p n k V Z wr HS.out HTW.out (by omega) hd hV hZ)
        clear hd hg hn hk1 hk4 hkl hV hZ
        go_wp2_with (go_at_call 69; go_must (refine HC.out.mono ?_); rintro e w1 ⟨rfl, hb⟩)
        go_roundg (gk - k)
        case measure => have := HG.out; have := HK.out; omega
        case rel => exact ⟨p + k, _, hbw.trans (hb.mono hbw.size), by rw [HZ.out]; rfl, by have := HG.out; have := HK.out; omega, HI2⟩
    · have HE := Lib.hid (chkE_some (hinv.out.done (by rw [str_len]; omega)))
      clear hg
      go_wp2
      go_ret2
      rw [HE.out]
      exact ⟨rfl, hbw⟩
#print axioms check_any
end Go.Proofs.YtkhcoefcifaaeaaDoor

namespace Go.Proofs.YtkhcoefcifaaeaaDoor
open Go.RowKit

theorem check_some (s : ByteArray) (L : List Nat) (e0 : Nat) (w : World) (hs : s.size ≤ 140737488355328) (hT : Tabs w) (h : runesF s.data.toList = (some L, e0)) :
    Calls Tryd.prog 59 #[.string s] w fun e w' => e = .returned (.tuple #[.int .i64 0, .int .i64 0]) ∧ Below w.heap.size w w' :=
  (check_any s w hs hT).mono fun _ _ h1 => ⟨h1.1.trans (by rw [chkE_some h]; rfl), h1.2⟩
theorem check_none (s : ByteArray) (p : Nat) (w : World) (hs : s.size ≤ 140737488355328) (hT : Tabs w) (h : runesF s.data.toList = (none, p)) :
    Calls Tryd.prog 59 #[.string s] w fun e w' => e = .returned (.tuple #[.int .i64 p, .int .i64 5]) ∧ Below w.heap.size w w' :=
  (check_any s w hs hT).mono fun _ _ h1 => ⟨h1.1.trans (by rw [chkE_none h]; rfl), h1.2⟩

/-- What Count answers. -/
def cntE (l : List UInt8) : Nat × Nat := match runesF l with | (some L, _) => (L.length, 0) | (none, _) => (0, 5)
theorem cntE_some {l : List UInt8} {L : List Nat} {e : Nat} (h : runesF l = (some L, e)) : cntE l = (L.length, 0) := by unfold cntE; rw [h]
theorem cntE_none {l : List UInt8} {p : Nat} (h : runesF l = (none, p)) : cntE l = (0, 5) := by unfold cntE; rw [h]

/-- The step of a range over a text at a rune. -/
theorem next_rune (w : World) (g : Nat) (s : ByteArray) (p n k : Nat) (ty : TypeId) (hk : w.heap[g]? = some (.stringIter s p)) (hp : p < s.size) (hd : decF (s.data.toList.drop p) = some (n, k)) :
    (Instr.next (.pointer (some ⟨g, 0, none⟩)) true ty).run Tryd.prog w = .ok (.tuple #[.bool true, .int .i64 p, .int .i32 n]) (w.iterAt g s (p + k)) := by
  have := Lib.run_next_any_at (P := Tryd.prog) w g s p ty hk hp
  rw [decode_drop s p hp, decR_some hd] at this
  exact this

end Go.Proofs.YtkhcoefcifaaeaaDoor

namespace Go.Proofs.YtkhcoefcifaaeaaDoor
open Go.RowKit

set_option maxRecDepth 100000 in
set_option maxHeartbeats 400000 in
theorem sized_is (s : ByteArray) (lo hi : Int) (c : Bool) (w : World) (h : (decide (lo ≤ (s.size : Int)) && decide ((s.size : Int) ≤ hi)) = c) :
    Calls Tryd.prog 44 #[.string s, .int .i64 lo, .int .i64 hi] w fun e w' => e = .returned (.bool c) ∧ w = w' := by
  by_cases h1 : lo ≤ (s.size : Int)
  · by_cases h2 : (s.size : Int) ≤ hi
    · have HC := Lib.hid (show c = true by rw [← h, decide_eq_true h1, decide_eq_true h2]; rfl)
      clear h
      go_enter Tryd.func44, Tryd.ntmps44
      go_wp2
      go_ret
      exact ⟨retBl HC.out.symm, rfl⟩
    · have HC := Lib.hid (show c = false by rw [← h, decide_eq_true h1, decide_eq_false h2]; rfl)
      clear h
      go_enter Tryd.func44, Tryd.ntmps44
      go_wp2
      go_ret
      exact ⟨retBl HC.out.symm, rfl⟩
  · have HC := Lib.hid (show c = false by rw [← h, decide_eq_false h1]; rfl)
    clear h
    go_enter Tryd.func44, Tryd.ntmps44
    go_wp2
    go_ret
    exact ⟨retBl HC.out.symm, rfl⟩

set_option maxRecDepth 100000 in
set_option maxHeartbeats 400000 in
theorem text_any (s : ByteArray) (w : World) (hs : s.size ≤ 140737488355328) (hT : Tabs w) :
    Calls Tryd.prog 45 #[.string s] w fun e w' => e = .returned (.bool (textOk s.data.toList)) ∧ Below w.heap.size w w' := by
  rcases runesF_cases s.data.toList with ⟨L, hL⟩ | ⟨p, hL⟩
  · have HC := Lib.hid (check_some s L _ w hs hT hL)
    have HE := Lib.hid (textOk_some hL)
    clear hs hT hL
    go_enter Tryd.func45, Tryd.ntmps45
    go_wp2_with (go_at_call 59; (with_reducible refine HC.out.mono ?_); rintro e w1 ⟨rfl, hb⟩)
    go_ret
    exact ⟨retBl HE.out.symm, hb⟩
  · have HC := Lib.hid (check_none s p w hs hT hL)
    have HE := Lib.hid (textOk_none hL)
    clear hs hT hL
    go_enter Tryd.func45, Tryd.ntmps45
    go_wp2_with (go_at_call 59; (with_reducible refine HC.out.mono ?_); rintro e w1 ⟨rfl, hb⟩)
    go_ret
    exact ⟨retBl HE.out.symm, hb⟩

end Go.Proofs.YtkhcoefcifaaeaaDoor

namespace Go.Proofs.YtkhcoefcifaaeaaDoor
open Go.RowKit

theorem nameC_iff (n : Nat) : nameC n = true ↔ (97 ≤ n ∧ n ≤ 122) ∨ (65 ≤ n ∧ n ≤ 90) ∨ (48 ≤ n ∧ n ≤ 57) ∨ n = 45 ∨ n = 95 ∨ n = 46 := by
  simp [nameC]; omega

set_option maxRecDepth 100000 in
set_option maxHeartbeats 1000000 in
theorem named_is (n : Nat) (c : Bool) (w : World) (h : nameC n = c) : Calls Tryd.prog 64 #[.int .i32 n] w fun e w' => e = .returned (.bool c) ∧ w = w' := by
  have HC := Lib.hid (show c = true ↔ _ from h ▸ nameC_iff n)
  clear h
  go_enter Tryd.func64, Tryd.ntmps64
  go_wp2
  all_goals
    go_ret
    refine ⟨retBl ?_, rfl⟩
    rw [Bool.eq_iff_iff, HC.out]
    simp
    omega
#print axioms named_is
end Go.Proofs.YtkhcoefcifaaeaaDoor

namespace Go.Proofs.YtkhcoefcifaaeaaDoor
open Go.RowKit

theorem all_stop {q : Nat → Bool} {L acc : List Nat} {n : Nat} {m : List Nat} (h : L = (acc ++ [n]) ++ m) (hn : q n = false) : L.all q = false := by
  rw [h, List.all_append, List.all_append]; simp [hn]

end Go.Proofs.YtkhcoefcifaaeaaDoor

namespace Go.Proofs.YtkhcoefcifaaeaaDoor
open Go.RowKit

theorem decR_big {l : List UInt8} {c : UInt8} (hl : l.head? = some c) (hc : 128 ≤ c.toNat) : 128 ≤ (decR l).1 := by
  cases hd : decF l with
  | none => rw [decR_none hd]; decide
  | some q =>
    obtain ⟨n, k⟩ := q
    rw [decR_some hd]
    obtain ⟨hm, hk, hkl, ht⟩ := decF_some hd
    show 128 ≤ n
    apply Classical.byContradiction
    intro h
    have he : encF n = [UInt8.ofNat n] := by unfold encF; rw [if_pos (by omega)]
    rw [he] at hk ht
    simp at hk
    subst hk
    cases l with
    | nil => cases hl
    | cons x r =>
      simp at hl ht
      subst hl
      rw [ht, ofNat_toNat n (by omega)] at hc
      omega
theorem take_all {q : UInt8 → Bool} {l : List UInt8} {p : Nat} (hp : p < l.length) : (l.take (p + 1)).all q = ((l.take p).all q && q (l.getD p 0)) := by
  rw [List.take_succ_eq_append_getElem hp, List.all_append]; simp [hp]
theorem all_no {q : UInt8 → Bool} {l : List UInt8} {p : Nat} (hp : p < l.length) (h : q (l.getD p 0) = false) : l.all q = false := by
  rw [← List.take_append_drop (p + 1) l, List.all_append, take_all hp, h]; simp

def nmB (c : UInt8) : Bool := nameC c.toNat

set_option maxRecDepth 100000 in
set_option maxHeartbeats 400000 in
theorem each_named (s : ByteArray) (w : World) :
    Calls Tryd.prog 65 #[.string s, .func (.func 64) #[] #[]] w fun e w' => e = .returned (.bool (s.data.toList.all nmB)) ∧ Below w.heap.size w w' := by
  have HA := Lib.hid (show (s.data.toList.take 0).all nmB = true from rfl)
  go_enter Tryd.func65, Tryd.ntmps65
  go_wp2
  go_loopg [] s.size (fun g W => ∃ (p : Nat), Below w.heap.size w W ∧ W.heap[w.heap.size]? = some (.stringIter s p) ∧ g + p = s.size ∧ Hid ((s.data.toList.take p).all nmB = true))
  case atStart => exact ⟨0, (Below.refl _ _).alloc (Nat.le_refl _) _, World.iter_heap w s 0, rfl, HA⟩
  case round =>
    obtain ⟨p, hbw, hit, hg, hall⟩ := hrel
    have HG := Lib.hid hg
    by_cases hp : p < s.size
    · have hpl : p < s.data.toList.length := by rw [b_len]; exact hp
      have hat := b_at s p hp
      by_cases h128 : (s[p]'hp).toNat < 128
      · have hnx := fun ty => Lib.run_next_ascii_at (P := Tryd.prog) wr w.heap.size s p ty hit hp h128
        have HIT := Lib.hid (Lib.iterAt_heap wr w.heap.size s p (p + 1) hit)
        have HB2 := Lib.hid (Lib.below_iterAt hbw (k := w.heap.size) (Nat.le_refl _) s (p + 1))
        obtain ⟨n, hn⟩ : ∃ n, n = (s[p]'hp).toNat := ⟨_, rfl⟩
        rw [← hn] at hnx
        obtain ⟨f, hf⟩ : ∃ f, nameC n = f := ⟨_, rfl⟩
        have HC := Lib.hid (fun w => named_is n f w hf)
        have HF := Lib.hid (show nmB (s.data.toList.getD p 0) = f by unfold nmB; rw [← hat, ← hn, hf])
        have HPL := Lib.hid hpl
        clear hg hit hp hf hn hat h128 hpl
        rcases f
        · have HE := Lib.hid (all_no HPL.out HF.out)
          go_wp2_with (go_at_call 64; (with_reducible refine (HC.out _).mono ?_); rintro e w1 ⟨rfl, rfl⟩)
          go_ret
          exact ⟨retBl HE.out.symm, HB2.out⟩
        · have HE := Lib.hid (show (s.data.toList.take (p + 1)).all nmB = true by rw [take_all HPL.out, hall.out, HF.out]; rfl)
          go_wp2_with (go_at_call 64; (with_reducible refine (HC.out _).mono ?_); rintro e w1 ⟨rfl, rfl⟩)
          go_roundg (gk - 1)
          case measure => have := HG.out; have := HPL.out; rw [b_len] at this; omega
          case rel => exact ⟨p + 1, HB2.out, HIT.out, by have := HG.out; have := HPL.out; rw [b_len] at this; omega, HE⟩
      · have hnx0 := fun ty => Lib.run_next_any_at (P := Tryd.prog) wr w.heap.size s p ty hit hp
        rw [decode_drop s p hp] at hnx0
        have hbig : 128 ≤ (decR (s.data.toList.drop p)).1 := decR_big (c := s[p]'hp) (by rw [List.head?_drop, List.getElem?_eq_getElem hpl]; rfl) (by omega)
        obtain ⟨n, hn⟩ : ∃ n, n = (decR (s.data.toList.drop p)).1 := ⟨_, rfl⟩
        obtain ⟨k, hk⟩ : ∃ k, k = (decR (s.data.toList.drop p)).2 := ⟨_, rfl⟩
        rw [← hn, ← hk] at hnx0
        rw [← hn] at hbig
        have hnx := hnx0
        have HB2 := Lib.hid (Lib.below_iterAt hbw (k := w.heap.size) (Nat.le_refl _) s (p + k))
        have HC := Lib.hid (fun w => named_is n false w (by rw [Bool.eq_false_iff]; intro h; have := (nameC_iff n).1 h; omega))
        have HF := Lib.hid (show nmB (s.data.toList.getD p 0) = false by unfold nmB; rw [← hat, Bool.eq_false_iff]; intro h; have := (nameC_iff _).1 h; omega)
        have HE := Lib.hid (all_no hpl HF.out)
        clear hg hit hp hn hk hat h128 hpl hnx0 hbig
        go_wp2_with (go_at_call 64; (with_reducible refine (HC.out _).mono ?_); rintro e w1 ⟨rfl, rfl⟩)
        go_ret
        exact ⟨retBl HE.out.symm, HB2.out⟩
    · have hnx := fun ty => Lib.run_next_end_at (P := Tryd.prog) wr w.heap.size s p ty hit hp
      have HE := Lib.hid (show s.data.toList.all nmB = true by
        have := hall.out
        rw [List.take_of_length_le (by rw [b_len]; omega)] at this
        exact this)
      clear hg hp hit
      go_wp2
      go_ret
      exact ⟨retBl HE.out.symm, hbw⟩
#print axioms each_named
end Go.Proofs.YtkhcoefcifaaeaaDoor

namespace Go.Proofs.YtkhcoefcifaaeaaDoor
open Go.RowKit

theorem each_named_is (s : ByteArray) (c : Bool) (w : World) (h : s.data.toList.all nmB = c) :
    Calls Tryd.prog 65 #[.string s, .func (.func 64) #[] #[]] w fun e w' => e = .returned (.bool c) ∧ Below w.heap.size w w' := by subst h; exact each_named s w

theorem nameF_eq (s : List UInt8) : nameF s = (decide (1 ≤ s.length) && decide (s.length ≤ 32) && s.all nmB && s.getD 0 0 != 46 && s.getD 0 0 != 45 && s != [72, 69, 65, 68]) := rfl

set_option maxRecDepth 100000 in
set_option maxHeartbeats 1000000 in
theorem name_any (s : ByteArray) (w : World) :
    Calls Tryd.prog 54 #[.string s] w fun e w' => e = .returned (.bool (nameF s.data.toList)) ∧ Below w.heap.size w w' := by
  obtain ⟨r, hr⟩ : ∃ r, r = nameF s.data.toList := ⟨_, rfl⟩
  rw [← hr]
  rw [nameF_eq, b_len] at hr
  have HR := Lib.hid hr
  clear hr
  obtain ⟨c1, h1⟩ : ∃ c, (decide ((1 : Int) ≤ (s.size : Int)) && decide ((s.size : Int) ≤ 32)) = c := ⟨_, rfl⟩
  have H1 := Lib.hid (fun w => sized_is s 1 32 c1 w h1)
  obtain ⟨c2, h2⟩ : ∃ c, s.data.toList.all nmB = c := ⟨_, rfl⟩
  have H2 := Lib.hid (fun w => each_named_is s c2 w h2)
  have E1 := Lib.hid h1
  have E2 := Lib.hid h2
  rcases c1
  · clear h1 h2
    go_enter Tryd.func54, Tryd.ntmps54
    go_wp2_with (go_at_call 44; (with_reducible refine (H1.out _).mono ?_); rintro e w1 ⟨rfl, rfl⟩)
    go_ret
    refine ⟨retBl ?_, Below.refl _ _⟩
    symm
    rw [HR.out]
    have := E1.out
    simp only [Bool.and_eq_false_iff, decide_eq_false_iff_not] at this
    rcases this with h | h
    · rw [decide_eq_false (p := 1 ≤ s.size) (by omega)]; rfl
    · rw [decide_eq_false (p := s.size ≤ 32) (by omega)]; simp
  · simp only [Bool.and_eq_true, decide_eq_true_eq] at h1
    have h0 : 0 < s.size := by omega
    have h0I : (0 : Int) < (s.size : Int) := by omega
    have E1 := Lib.hid h1
    rcases c2
    · clear h1 h2
      go_enter Tryd.func54, Tryd.ntmps54
      go_wp2_with (first
        | (go_at_call 44; (with_reducible refine (H1.out _).mono ?_); rintro e w1 ⟨rfl, rfl⟩)
        | (go_at_call 65; (with_reducible refine (H2.out _).mono ?_); rintro e w1 ⟨rfl, hb⟩))
      go_ret
      refine ⟨retBl ?_, hb⟩
      rw [HR.out, E2.out]; simp
    · have hat := b_at s 0 h0
      have HH := Lib.hid (show r = (s.data.toList.getD 0 0 != 46 && s.data.toList.getD 0 0 != 45 && s.data.toList != [72, 69, 65, 68]) by
        rw [HR.out, E2.out, decide_eq_true (p := 1 ≤ s.size) (by omega), decide_eq_true (p := s.size ≤ 32) (by omega)]; rfl)
      by_cases g1 : ((s[0]'h0).toNat : Int) = 46
      · have HX := Lib.hid (show r = false by
          rw [HH.out, ← hat, show (s[0]'h0) = 46 from by apply UInt8.toNat_inj.1; show (s[0]'h0).toNat = 46; omega]; rfl)
        clear h1 h2 hat
        go_enter Tryd.func54, Tryd.ntmps54
        go_wp2_with (first
          | (go_at_call 44; (with_reducible refine (H1.out _).mono ?_); rintro e w1 ⟨rfl, rfl⟩)
          | (go_at_call 65; (with_reducible refine (H2.out _).mono ?_); rintro e w1 ⟨rfl, hb⟩))
        go_ret
        exact ⟨retBl HX.out.symm, hb⟩
      · have n1 : ((s[0]'h0) != 46) = true := by rw [bne_iff_ne]; intro e; apply g1; rw [e]; rfl
        by_cases g2 : ((s[0]'h0).toNat : Int) = 45
        · have HX := Lib.hid (show r = false by
            rw [HH.out, ← hat, show (s[0]'h0) = 45 from by apply UInt8.toNat_inj.1; show (s[0]'h0).toNat = 45; omega]; rfl)
          have g3 : (((s[0]'h0).toNat : Int) != 46) = true := by rw [bne_iff_ne]; exact g1
          clear h1 h2 hat
          go_enter Tryd.func54, Tryd.ntmps54
          go_wp2_with (first
            | (go_at_call 44; (with_reducible refine (H1.out _).mono ?_); rintro e w1 ⟨rfl, rfl⟩)
            | (go_at_call 65; (with_reducible refine (H2.out _).mono ?_); rintro e w1 ⟨rfl, hb⟩))
          go_ret
          exact ⟨retBl HX.out.symm, hb⟩
        · have n2 : ((s[0]'h0) != 45) = true := by rw [bne_iff_ne]; intro e; apply g2; rw [e]; rfl
          have g3 : (((s[0]'h0).toNat : Int) != 46) = true := by rw [bne_iff_ne]; exact g1
          have g4 : (((s[0]'h0).toNat : Int) != 45) = true := by rw [bne_iff_ne]; exact g2
          have HX := Lib.hid (show r = !(s.toList == [72, 69, 65, 68]) by
            rw [HH.out, ← hat, n1, n2, Lib.toList_data]; rfl)
          clear h1 h2 hat
          go_enter Tryd.func54, Tryd.ntmps54
          go_wp2_with (first
            | (go_at_call 44; (with_reducible refine (H1.out _).mono ?_); rintro e w1 ⟨rfl, rfl⟩)
            | (go_at_call 65; (with_reducible refine (H2.out _).mono ?_); rintro e w1 ⟨rfl, hb⟩))
          go_ret
          exact ⟨retBl (by rw [HX.out]), hb⟩
#print axioms name_any
end Go.Proofs.YtkhcoefcifaaeaaDoor
