/-
  Merged: UtfGet0, UtfInv, UtfCheck.
-/
import Derived.Test.YtfoalaoanpbmeaaDoorUtfOne
import Derived.Test.YtfoalaoanpbmeaaDoorUtfShelf
import Derived.Test.YtfoalaoanpbmeaaDoorGrp10
namespace Go.Proofs.YtfoalaoanpbmeaaDoor
open Go.RowKit

/-- The library's two tables, as the program's text lays them. -/
def Tabs (w : World) : Prop := Lib.Utf8Tabs 1 2 w

theorem Tabs.below {w w' : World} (h : Tabs w) (hb : Below w.heap.size w w') : Tabs w' := Utf8Tabs_below h hb

/-- What Decode answers. -/
def decE (l : List UInt8) (at_ : Int) : Nat × Int × Nat :=
  if at_ < 0 ∨ (l.length : Int) ≤ at_ then (0, 0, 1) else match decF (l.drop at_.toNat) with | some (n, k) => (n, at_ + (k : Int), 0) | none => (0, 0, 5)

def DecIs (r : Nat × Int × Nat) (w : World) (e : Ending) (w' : World) : Prop := e = .returned (.tuple #[.int .i32 r.1, .int .i64 r.2.1, .int .i64 r.2.2]) ∧ Below w.heap.size w w'

theorem DecIs.mk {n : Nat} {Y V Z : Int} {w w' : World} (hV : V = (n : Int)) (hZ : Z = Y) (hb : Below w.heap.size w w') : DecIs (n, Y, 0) w (.returned (.tuple #[.int .i32 V, .int .i64 Z, .int .i64 0])) w' := by
  subst hV hZ; exact ⟨rfl, hb⟩

theorem decE_out {l : List UInt8} {at_ : Int} (h : at_ < 0 ∨ (l.length : Int) ≤ at_) : decE l at_ = (0, 0, 1) := by unfold decE; rw [if_pos h]
theorem decE_some {l : List UInt8} {p n k : Nat} (hp : p < l.length) (h : decF (l.drop p) = some (n, k)) : decE l (p : Int) = (n, (p : Int) + (k : Int), 0) := by
  unfold decE; rw [if_neg (by omega), Int.toNat_natCast, h]
theorem decE_none {l : List UInt8} {p : Nat} (hp : p < l.length) (h : decF (l.drop p) = none) : decE l (p : Int) = (0, 0, 5) := by
  unfold decE; rw [if_neg (by omega), Int.toNat_natCast, h]

theorem str_len (s : ByteArray) : s.data.toList.length = s.size := by simp

/-- The library's decoding of what is left of a text. -/
theorem libDec (s : ByteArray) (p : Nat) (R K : Nat) (w : World) (hp : p < s.size) (h : decR (s.data.toList.drop p) = (R, K)) (hT : Tabs w) :
    Calls Tryd.prog 74 #[.string (s.extract p s.size)] w fun e w' => e = .returned (.tuple #[.int .i32 (R : Int), .int .i64 (K : Int)]) ∧ Below w.heap.size w w' := by
  have hx : s.extract p s.size = strB (s.data.toList.drop p) := by
    rw [extract_list]
    congr 1
    exact List.take_of_length_le (by simp)
  have hd : Lib.decodeGo (s.extract p s.size) = (R, K) := by
    rw [hx, decodeGo_eq _ (by rw [strB_size]; simp; omega), strB_list, h]
  have := Tryd.utf8_DecodeRuneInString (s.extract p s.size) w hT
  rw [hd] at this
  exact this

theorem dec_bounds {l : List UInt8} {n k : Nat} (h : decF l = some (n, k)) : n ≤ 1114111 ∧ 1 ≤ k ∧ k ≤ 4 ∧ k ≤ l.length := by
  obtain ⟨hm, hk, hl, _⟩ := decF_some h
  have := encF_pos n
  exact ⟨mayF_lt hm, by omega, by omega, hl⟩

set_option maxRecDepth 100000 in
set_option maxHeartbeats 1000000 in
theorem decode_any (s : ByteArray) (at_ : Int) (w : World) (hs : s.size ≤ 140737488355328) (hT : Tabs w) :
    Calls Tryd.prog 53 #[.string s, .int .i64 at_] w (DecIs (decE s.data.toList at_) w) := by
  have hsI : (s.size : Int) ≤ 140737488355328 := by omega
  have HT := Lib.hid hT
  clear hT
  by_cases h1 : at_ < 0
  · have HE := Lib.hid (decE_out (l := s.data.toList) (at_ := at_) (.inl h1))
    clear hs
    go_enter Tryd.func53, Tryd.ntmps53
    go_wp2
    go_ret3
    rw [HE.out]
    exact ⟨rfl, Below.refl _ _⟩
  · by_cases h2 : (s.size : Int) ≤ at_
    · have HE := Lib.hid (decE_out (l := s.data.toList) (at_ := at_) (.inr (by rw [str_len]; exact h2)))
      clear hs
      go_enter Tryd.func53, Tryd.ntmps53
      go_wp2
      go_ret3
      rw [HE.out]
      exact ⟨rfl, Below.refl _ _⟩
    · obtain ⟨p, rfl⟩ := Int.eq_ofNat_of_zero_le (show 0 ≤ at_ by omega)
      have hp : p < s.size := by omega
      have hpI : (p : Int) < (s.size : Int) := by omega
      have hpI2 : (p : Int) ≤ (s.size : Int) := by omega
      have hp2 : p ≤ s.size := by omega
      clear h1 h2
      cases hd : decF (s.data.toList.drop p) with
      | none =>
        have HE := Lib.hid (decE_none (by rw [str_len]; exact hp) hd)
        have HR := Lib.hid (decR_none hd)
        have HP := Lib.hid hp
        clear hd hs hp
        go_enter Tryd.func53, Tryd.ntmps53
        go_wp2_with (go_at_call 74; go_must (refine (libDec s p _ _ _ HP.out HR.out HT.out).mono ?_); rintro e w1 ⟨rfl, hb⟩)
        go_ret3
        rw [HE.out]
        exact ⟨rfl, hb⟩
      | some q =>
        obtain ⟨n, k⟩ := q
        have HE := Lib.hid (decE_some (by rw [str_len]; exact hp) hd)
        have HR := Lib.hid (decR_some hd)
        have HP := Lib.hid hp
        obtain ⟨hn, hk1, hk4, hkl⟩ := dec_bounds hd
        have hkl' : (k : Int) ≤ (s.size : Int) - (p : Int) := by simp at hkl; omega
        have hk1' : (1 : Int) ≤ (k : Int) := by omega
        have h65 : n = 65533 → k ≠ 1 := fun h e => by subst e; have := decF_one hd; omega
        obtain ⟨V, hV⟩ : ∃ V : Int, V = (n : Int) := ⟨_, rfl⟩
        obtain ⟨Z, hZ⟩ : ∃ Z : Int, Z = (k : Int) := ⟨_, rfl⟩
        have HV := Lib.hid hV
        have HZ := Lib.hid hZ
        by_cases e1 : V = 65533
        · have hz : ¬ Z = 1 := by have := h65 (by omega); omega
          have hzb : (Z == 1) = false := by simpa using hz
          have hz0 : 0 ≤ Z := by omega
          have hz4 : Z ≤ (s.size : Int) - (p : Int) := by omega
          have HE1 := Lib.hid e1
          clear hd hs hp hn hk1 hk4 hkl hkl' hk1' h65 hV hZ e1 hz
          go_enter Tryd.func53, Tryd.ntmps53
          go_wp2_with (go_at_call 74; go_must (refine (libDec s p n k _ HP.out HR.out HT.out).mono ?_); rintro e w1 ⟨rfl, hb⟩; rw [← HV.out, ← HZ.out, HE1.out])
          go_ret3
          rw [HE.out]
          exact DecIs.mk (HE1.out.symm.trans HV.out) (by rw [HZ.out]) hb
        · have hvb : (V == 65533) = false := by simpa using e1
          have hz0 : 0 ≤ Z := by omega
          have hz4 : Z ≤ (s.size : Int) - (p : Int) := by omega
          clear hd hs hp hn hk1 hk4 hkl hkl' hk1' h65 hV hZ e1
          go_enter Tryd.func53, Tryd.ntmps53
          go_wp2_with (go_at_call 74; go_must (refine (libDec s p n k _ HP.out HR.out HT.out).mono ?_); rintro e w1 ⟨rfl, hb⟩; rw [← HV.out, ← HZ.out])
          go_ret3
          rw [HE.out]
          exact DecIs.mk HV.out (by rw [HZ.out]) hb
#print axioms decode_any

end Go.Proofs.YtfoalaoanpbmeaaDoor

namespace Go.Proofs.YtfoalaoanpbmeaaDoor

/-- So far these runes stand there, and so many bytes are read. -/
def Inv (l : List UInt8) (p : Nat) (acc : List Nat) : Prop := runesF l = runesGo l.length p acc (l.drop p)

theorem Inv.start (l : List UInt8) : Inv l 0 [] := by unfold Inv runesF; rw [List.drop_zero]
theorem Inv.step {l : List UInt8} {p n k : Nat} {acc : List Nat} (h : Inv l p acc) (hd : decF (l.drop p) = some (n, k)) : Inv l (p + k) (acc ++ [n]) := by
  unfold Inv at h ⊢
  rw [h, runesGo_step (by simp) hd, List.drop_drop]
theorem Inv.stop {l : List UInt8} {p : Nat} {acc : List Nat} (h : Inv l p acc) (hp : p < l.length) (hd : decF (l.drop p) = none) : runesF l = (none, p) := by
  unfold Inv at h
  rw [h, runesGo_stop (fun e => by have := congrArg List.length e; simp at this; omega) hd]
theorem Inv.done {l : List UInt8} {p : Nat} {acc : List Nat} (h : Inv l p acc) (hp : l.length ≤ p) : runesF l = (some acc, p) := by
  unfold Inv at h
  rw [h, List.drop_eq_nil_of_le hp, runesGo_nil]
theorem Inv.more {l L : List Nat} {s : List UInt8} {p e : Nat} (h : Inv s p l) (hs : runesF s = (some L, e)) (hp : p < s.length) : ∃ n k, decF (s.drop p) = some (n, k) := by
  cases hd : decF (s.drop p) with
  | none => rw [h.stop hp hd] at hs; simp at hs
  | some q => exact ⟨q.1, q.2, rfl⟩

/-- As many runes as have been read are the first of all. -/
theorem Inv.pre {s : List UInt8} {p e : Nat} {acc L : List Nat} (h : Inv s p acc) (hs : runesF s = (some L, e)) : ∃ m, L = acc ++ m := by
  unfold Inv at h
  rw [hs] at h
  obtain ⟨m, hm, _⟩ := runesGo_some _ _ _ _ _ _ h.symm
  exact ⟨m, hm⟩

/-- What Check answers. -/
def chkE (l : List UInt8) : Nat × Nat := match runesF l with | (some _, _) => (0, 0) | (none, p) => (p, 5)
theorem chkE_some {l : List UInt8} {L : List Nat} {e : Nat} (h : runesF l = (some L, e)) : chkE l = (0, 0) := by unfold chkE; rw [h]
theorem chkE_none {l : List UInt8} {p : Nat} (h : runesF l = (none, p)) : chkE l = (p, 5) := by unfold chkE; rw [h]
theorem runesF_cases (l : List UInt8) : (∃ L, runesF l = (some L, l.length)) ∨ ∃ p, runesF l = (none, p) := by
  rcases h : runesF l with ⟨_ | L, e⟩
  · exact .inr ⟨e, rfl⟩
  · have := (runesF_some h).2.2
    subst this
    exact .inl ⟨L, rfl⟩
theorem runesF_len {l : List UInt8} {L : List Nat} {e : Nat} (h : runesF l = (some L, e)) : L.length ≤ l.length := by
  obtain ⟨hm, hl, _⟩ := runesF_some h
  rw [hl]
  clear h hl
  induction L with
  | nil => simp
  | cons n L ih =>
    have e1 : textF (n :: L) = encF n ++ textF L := rfl
    rw [e1, List.length_append, List.length_cons]
    have := encF_pos n
    have := ih (fun x hx => hm x (by simp [hx]))
    omega
#print axioms runesF_len
end Go.Proofs.YtfoalaoanpbmeaaDoor

namespace Go.Proofs.YtfoalaoanpbmeaaDoor
open Go.RowKit

def ChkIs (r : Nat × Nat) (w : World) (e : Ending) (w' : World) : Prop := e = .returned (.tuple #[.int .i64 r.1, .int .i64 r.2]) ∧ Below w.heap.size w w'

/-- Decode at a rune; at none. -/
theorem decode_some (s : ByteArray) (p n k : Nat) (V Z : Int) (w : World) (hs : s.size ≤ 140737488355328) (hT : Tabs w) (hp : p < s.size) (hd : decF (s.data.toList.drop p) = some (n, k)) (hV : V = (n : Int)) (hZ : Z = (p : Int) + (k : Int)) :
    Calls Tryd.prog 53 #[.string s, .int .i64 (p : Int)] w fun e w' => e = .returned (.tuple #[.int .i32 V, .int .i64 Z, .int .i64 0]) ∧ Below w.heap.size w w' :=
  (decode_any s p w hs hT).mono fun _ _ h => ⟨h.1.trans (by rw [decE_some (by rw [str_len]; exact hp) hd, hV, hZ]; rfl), h.2⟩
theorem decode_none (s : ByteArray) (p : Nat) (w : World) (hs : s.size ≤ 140737488355328) (hT : Tabs w) (hp : p < s.size) (hd : decF (s.data.toList.drop p) = none) :
    Calls Tryd.prog 53 #[.string s, .int .i64 (p : Int)] w fun e w' => e = .returned (.tuple #[.int .i32 0, .int .i64 0, .int .i64 5]) ∧ Below w.heap.size w w' :=
  (decode_any s p w hs hT).mono fun _ _ h => ⟨h.1.trans (by rw [decE_none (by rw [str_len]; exact hp) hd]; rfl), h.2⟩

set_option maxRecDepth 100000 in
set_option maxHeartbeats 1000000 in
theorem check_any (s : ByteArray) (w : World) (hs : s.size ≤ 140737488355328) (hT : Tabs w) :
    Calls Tryd.prog 38 #[.string s] w (ChkIs (chkE s.data.toList) w) := by
  have hsI : (s.size : Int) ≤ 140737488355328 := by omega
  have HS := Lib.hid hs
  have HT := Lib.hid hT
  have HI := Lib.hid (Inv.start s.data.toList)
  clear hT hs
  go_enter Tryd.func38, Tryd.ntmps38
  go_wp2
  go_loopg [2] s.size (fun g v2 W => ∃ (p : Nat) (acc : List Nat), Below w.heap.size w W ∧ v2 = .int .i64 p ∧ g + p = s.size ∧ Hid (Inv s.data.toList p acc))
  case atStart => exact ⟨0, [], Below.refl _ _, rfl, rfl, HI⟩
  case round =>
    obtain ⟨p, acc, hbw, rfl, hg, hinv⟩ := hrel
    have HG := Lib.hid hg
    have HTW := Lib.hid (HT.out.below hbw)
    have hpI2 : (p : Int) ≤ (s.size : Int) := by omega
    by_cases hp : (p : Int) < (s.size : Int)
    · cases hd : decF (s.data.toList.drop p) with
      | none =>
        have HE := Lib.hid (chkE_none (hinv.out.stop (by rw [str_len]; omega) hd))
        have HC := Lib.hid (decode_none s p wr HS.out HTW.out (by omega) hd)
        clear hd hg
        go_wp2_with (go_at_call 53; go_must (refine HC.out.mono ?_); rintro e w1 ⟨rfl, hb⟩)
        go_ret2
        rw [HE.out]
        exact ⟨rfl, hbw.trans (hb.mono hbw.size)⟩
      | some q =>
        obtain ⟨n, k⟩ := q
        obtain ⟨hn, hk1, hk4, hkl⟩ := dec_bounds hd
        have HK := Lib.hid (show 1 ≤ k ∧ k ≤ s.size - p from ⟨hk1, by simpa using hkl⟩)
        have HI2 := Lib.hid (hinv.out.step hd)
        obtain ⟨V, hV⟩ : ∃ V : Int, V = (n : Int) := ⟨_, rfl⟩
        obtain ⟨Z, hZ⟩ : ∃ Z : Int, Z = (p : Int) + (k : Int) := ⟨_, rfl⟩
        have HZ := Lib.hid hZ
        have HC := Lib.hid (decode_some s p n k V Z wr HS.out HTW.out (by omega) hd hV hZ)
        clear hd hg hn hk1 hk4 hkl hV hZ
        go_wp2_with (go_at_call 53; go_must (refine HC.out.mono ?_); rintro e w1 ⟨rfl, hb⟩)
        go_roundg (gk - k)
        case measure => have := HG.out; have := HK.out; omega
        case rel => exact ⟨p + k, _, hbw.trans (hb.mono hbw.size), by rw [HZ.out]; rfl, by have := HG.out; have := HK.out; omega, HI2⟩
    · have HE := Lib.hid (chkE_some (hinv.out.done (by rw [str_len]; omega)))
      clear hg
      go_wp2
      go_ret2
      rw [HE.out]
      exact ⟨rfl, hbw⟩
#print axioms check_any
end Go.Proofs.YtfoalaoanpbmeaaDoor
