/-
  Merged: UtfNext, UtfRunes0, UtfRefRunes, HkRefS, HkRefPut, HkSame, HkOf.
-/
import Derived.Test.YtfoalaoanpbmeaaDoorGrp8
import Derived.Lib.OthersKept
import Derived.Test.YtfoalaoanpbmeaaDoorRunes
import Derived.Test.YtfoalaoanpbmeaaDoorUtfOne
import Derived.Test.YtfoalaoanpbmeaaDoorHkAB
import Derived.Test.YtfoalaoanpbmeaaDoorMyRefMoves
import Derived.Deep.RegionHeld3
namespace Go.Proofs.YtfoalaoanpbmeaaDoor
open Go.RowKit

theorem check_some (s : ByteArray) (L : List Nat) (e0 : Nat) (w : World) (hs : s.size ≤ 140737488355328) (hT : Tabs w) (h : runesF s.data.toList = (some L, e0)) :
    Calls Tryd.prog 38 #[.string s] w fun e w' => e = .returned (.tuple #[.int .i64 0, .int .i64 0]) ∧ Below w.heap.size w w' :=
  (check_any s w hs hT).mono fun _ _ h1 => ⟨h1.1.trans (by rw [chkE_some h]; rfl), h1.2⟩
theorem check_none (s : ByteArray) (p : Nat) (w : World) (hs : s.size ≤ 140737488355328) (hT : Tabs w) (h : runesF s.data.toList = (none, p)) :
    Calls Tryd.prog 38 #[.string s] w fun e w' => e = .returned (.tuple #[.int .i64 p, .int .i64 5]) ∧ Below w.heap.size w w' :=
  (check_any s w hs hT).mono fun _ _ h1 => ⟨h1.1.trans (by rw [chkE_none h]; rfl), h1.2⟩

/-- What Count answers. -/
def cntE (l : List UInt8) : Nat × Nat := match runesF l with | (some L, _) => (L.length, 0) | (none, _) => (0, 5)
theorem cntE_some {l : List UInt8} {L : List Nat} {e : Nat} (h : runesF l = (some L, e)) : cntE l = (L.length, 0) := by unfold cntE; rw [h]
theorem cntE_none {l : List UInt8} {p : Nat} (h : runesF l = (none, p)) : cntE l = (0, 5) := by unfold cntE; rw [h]

/-- The step of a range over a text at a rune. -/
theorem next_rune (w : World) (g : Nat) (s : ByteArray) (p n k : Nat) (ty : TypeId) (hk : w.heap[g]? = some (.stringIter s p)) (hp : p < s.size) (hd : decF (s.data.toList.drop p) = some (n, k)) :
    (Instr.next (.pointer (some ⟨g, 0, none⟩)) true ty).run Tryd.prog w = .ok (.tuple #[.bool true, .int .i64 p, .int .i32 n]) (w.iterAt g s (p + k)) := by
  have := Lib.run_next_any_at (P := Tryd.prog) w g s p ty hk hp
  rw [decode_drop s p hp, decR_some hd] at this
  exact this

end Go.Proofs.YtfoalaoanpbmeaaDoor

namespace Go.Proofs.YtfoalaoanpbmeaaDoor
open Go.RowKit

/-- Runes as numbers. -/
def zs (l : List Nat) : List Int := l.map fun n : Nat => (n : Int)
theorem zs_length (l : List Nat) : (zs l).length = l.length := by simp [zs]
theorem zs_append (l m : List Nat) : zs (l ++ m) = zs l ++ zs m := by simp [zs]
theorem zs_inj {l m : List Nat} (h : zs l = zs m) : l = m := by
  unfold zs at h
  exact (List.map_inj_right (fun x y hxy => by omega)).1 h

/-- What Runes answers. -/
def runE (l : List UInt8) : List Nat × Nat × Nat := match runesF l with | (some L, _) => (L, 0, 0) | (none, p) => ([], p, 5)
theorem runE_some {l : List UInt8} {L : List Nat} {e : Nat} (h : runesF l = (some L, e)) : runE l = (L, 0, 0) := by unfold runE; rw [h]
theorem runE_none {l : List UInt8} {p : Nat} (h : runesF l = (none, p)) : runE l = ([], p, 5) := by unfold runE; rw [h]

def RunIs (r : List Nat × Nat × Nat) (w : World) (e : Ending) (w' : World) : Prop :=
  ∃ a n c, e = .returned (.tuple #[.slice a n c, .int .i64 r.2.1, .int .i64 r.2.2]) ∧ OwnR w' w.heap.size (.slice a n c) (zs r.1) ∧ Below w.heap.size w w'

theorem RunIs.of {r : List Nat × Nat × Nat} {w w' : World} {v : Value} (h : OwnR w' w.heap.size v (zs r.1)) (hb : Below w.heap.size w w') :
    RunIs r w (.returned (.tuple #[v, .int .i64 r.2.1, .int .i64 r.2.2])) w' := by
  obtain ⟨a, n, c, rfl, _⟩ := h.runs
  exact ⟨a, n, c, rfl, h, hb⟩

theorem ownR_iterAt {w : World} {base : Nat} {v : Value} {l : List Int} (h : OwnR w base v l) {k : Nat} (hk : k < base) (s : ByteArray) (pos : Nat) : OwnR (w.iterAt k s pos) base v l := by
  obtain ⟨h1, h2⟩ := h
  refine ⟨h1, ?_⟩
  rcases h2 with h2 | ⟨g, cap, cur, hv, hg, hh, r⟩
  · exact .inl h2
  · exact .inr ⟨g, cap, cur, hv, hg, by rw [Lib.iterAt_other w k g s pos (by omega)]; exact hh, r⟩

/-- A block that is no row of the owner's stands. -/
theorem kept_block {w w' : World} {v : Value} {k base : Nat} (hg : w.grownBy w' v.ownBlock) (hb : ∀ q, v.ownBlock = some q → base ≤ q) (hk : k < w.heap.size) (hkb : k < base) : w'.heap[k]? = w.heap[k]? :=
  hg.block k hk (fun e => by have := hb k e.symm; omega)

end Go.Proofs.YtfoalaoanpbmeaaDoor

namespace Go.Proofs.YtfoalaoanpbmeaaDoor
open Go.RowKit

theorem one_some (s : ByteArray) (p n k : Nat) (V Z : Int) (w : World) (hs : s.size ≤ 140737488355328) (hp : p < s.size) (hd : decF (s.data.toList.drop p) = some (n, k)) (hV : V = (n : Int)) (hZ : Z = (k : Int)) :
    Calls Tryd.prog 56 #[.string s, .int .i64 (p : Int)] w fun e w' => e = .returned (.tuple #[.int .i32 V, .int .i64 Z]) ∧ Below w.heap.size w w' :=
  (one_any s p w (by omega) hp).mono fun _ _ h => ⟨h.1.trans (by rw [oneF_some hd, hV, hZ]), h.2⟩
theorem one_none (s : ByteArray) (p : Nat) (w : World) (hs : s.size ≤ 140737488355328) (hp : p < s.size) (hd : decF (s.data.toList.drop p) = none) :
    Calls Tryd.prog 56 #[.string s, .int .i64 (p : Int)] w fun e w' => e = .returned (.tuple #[.int .i32 0, .int .i64 0]) ∧ Below w.heap.size w w' :=
  (one_any s p w (by omega) hp).mono fun _ _ h => ⟨h.1.trans (by rw [oneF_none hd]; rfl), h.2⟩

set_option maxRecDepth 100000 in
set_option maxHeartbeats 1000000 in
theorem refRunes_any (s : ByteArray) (w : World) (hs : s.size ≤ 20000000000) :
    Calls Tryd.prog 42 #[.string s] w (RunIs (runE s.data.toList) w) := by
  have hsI : (s.size : Int) ≤ 20000000000 := by omega
  have HS := Lib.hid hs
  have HI := Lib.hid (Inv.start s.data.toList)
  clear hs
  go_enter Tryd.func42, Tryd.ntmps42
  go_wp2
  go_loopg [5, 6] s.size (fun g v5 v6 W => ∃ (p : Nat) (acc : List Nat), Below w.heap.size w W ∧ OwnR W w.heap.size v5 (zs acc) ∧ v6 = .int .i64 p ∧ g + p = s.size ∧ acc.length ≤ p ∧ Hid (Inv s.data.toList p acc))
  case atStart => exact ⟨0, [], Below.refl _ _, OwnR.nil _ _, rfl, rfl, by simp, HI⟩
  case round =>
    obtain ⟨p, acc, hbw, hown, rfl, hg, hle, hinv⟩ := hrel
    have HG := Lib.hid hg
    have HLE := Lib.hid hle
    have hp0 : (0 : Int) ≤ (p : Int) := by omega
    have hpI : (p : Int) ≤ (s.size : Int) := by omega
    by_cases hp : (p : Int) < (s.size : Int)
    · cases hd : decF (s.data.toList.drop p) with
      | none =>
        have HE := Lib.hid (runE_none (hinv.out.stop (by rw [str_len]; omega) hd))
        have HC := Lib.hid (one_none s p wr (by have := HS.out; omega) (by omega) hd)
        clear hd hg hle
        go_wp2_with (go_at_call 56; go_must (refine HC.out.mono ?_); rintro e w1 ⟨rfl, hb⟩)
        go_ret3
        rw [HE.out]
        exact RunIs.of (r := ([], p, 5)) (OwnR.nil _ _) (hbw.trans (hb.mono hbw.size))
      | some q =>
        obtain ⟨n, k⟩ := q
        obtain ⟨hn, hk1, hk4, hkl⟩ := dec_bounds hd
        have HK := Lib.hid (show 1 ≤ k ∧ k ≤ s.size - p from ⟨hk1, by simpa using hkl⟩)
        have HI2 := Lib.hid (hinv.out.step hd)
        obtain ⟨V, hV⟩ : ∃ V : Int, V = (n : Int) := ⟨_, rfl⟩
        obtain ⟨Z, hZ⟩ : ∃ Z : Int, Z = (k : Int) := ⟨_, rfl⟩
        have HV := Lib.hid hV
        have HZ := Lib.hid hZ
        have hzb : (Z == 0) = false := by simp; omega
        have hz0 : 0 ≤ Z := by omega
        have hz4 : Z ≤ (s.size : Int) - (p : Int) := by have := HK.out; omega
        have HC := Lib.hid (one_some s p n k V Z wr (by have := HS.out; omega) (by omega) hd hV hZ)
        clear hd hg hn hk1 hk4 hkl hV hZ hle
        go_wp2_with (first
          | (go_at_call 56; go_must (refine HC.out.mono ?_); rintro e w1 ⟨rfl, hb⟩; have hown1 := hown.below hb; have hb1 := hbw.trans (hb.mono hbw.size))
          | ((with_reducible show wpList _ _ _ (⟨some 25, _, _, _, _, _⟩ :: _) _ _); go_must (refine app_runs rfl (.tmp 22) (.tmp 24) rfl w.heap.size _ (zs acc) rfl (hown1.alloc _) _ 1 1 [V] rfl (runs_one _ _) (by rw [zs_length]; have := HLE.out; have := HS.out; omega) (by have := hb1.size; simp; omega) ?_); intro v3 w3 hown3 hgr3; have hb3 := (hb1.alloc hb1.size (.cells #[.int .i32 V] 21)).grown hgr3 (by have := hb1.size; simp; omega) (fun q hq => (World.ownsRow.lt hown1 q hq).1); clear hgr3 hown1))
        go_roundg (gk - k)
        case measure => have := HG.out; have := HK.out; omega
        case rel => exact ⟨p + k, acc ++ [n], hb3, by rw [zs_append, show zs [n] = [V] from by rw [HV.out]; rfl]; exact hown3, by rw [HZ.out]; rfl, by have := HG.out; have := HK.out; omega, by rw [List.length_append, List.length_singleton]; have := HLE.out; have := HK.out; omega, HI2⟩
    · have HE := Lib.hid (runE_some (hinv.out.done (by rw [str_len]; omega)))
      clear hg hle
      go_wp2
      go_ret3
      rw [HE.out]
      exact RunIs.of (r := (acc, 0, 0)) hown hbw
#print axioms refRunes_any
end Go.Proofs.YtfoalaoanpbmeaaDoor

namespace Go.Proofs.YtfoalaoanpbmeaaDoor
open Go.RowKit Go.Lib My

theorem refRn_some (s : ByteArray) (L : List Nat) (e0 : Nat) (w : World) (hs : s.size ≤ 20000000000) (h : runesF s.data.toList = (some L, e0)) :
    Calls Tryd.prog 42 #[.string s] w fun e w' => ∃ a n c, e = .returned (.tuple #[.slice a n c, .int .i64 0, .int .i64 0]) ∧ Runs w' a n c (zs L) ∧ Below w.heap.size w w' :=
  (refRunes_any s w hs).mono fun _ _ ⟨a, n, c, h1, h2, h3⟩ => ⟨a, n, c, by rw [h1, runE_some h]; rfl, by rw [runE_some h] at h2; exact h2.isRuns, h3⟩
theorem refRn_none (s : ByteArray) (p : Nat) (w : World) (hs : s.size ≤ 20000000000) (h : runesF s.data.toList = (none, p)) :
    Calls Tryd.prog 42 #[.string s] w fun e w' => ∃ a n c, e = .returned (.tuple #[.slice a n c, .int .i64 p, .int .i64 5]) ∧ Runs w' a n c [] ∧ Below w.heap.size w w' :=
  (refRunes_any s w hs).mono fun _ _ ⟨a, n, c, h1, h2, h3⟩ => ⟨a, n, c, by rw [h1, runE_none h]; rfl, by rw [runE_none h] at h2; exact h2.isRuns, h3⟩
def isTF (l : List UInt8) : Bool := match runesF l with | (some _, _) => true | (none, _) => false
set_option maxRecDepth 100000 in
set_option maxHeartbeats 400000 in
theorem refIsT_any (s : ByteArray) (b : Bool) (w : World) (hs : s.size ≤ 20000000000) (hb : isTF s.data.toList = b) :
    Calls Tryd.prog 21 #[.string s] w fun e w' => e = .returned (.bool b) ∧ Below w.heap.size w w' := by
  subst hb
  rcases runesF_cases s.data.toList with ⟨L, hL⟩ | ⟨p, hL⟩
  · have HC := Lib.hid (refRn_some s L _ w hs hL)
    have HE := Lib.hid (show true = isTF s.data.toList by unfold isTF; rw [hL])
    clear hs hL
    go_enter Tryd.func21, Tryd.ntmps21
    go_wp2_with (go_at_call 42; (with_reducible refine HC.out.mono ?_); rintro e w1 ⟨a, n, c, rfl, hr, hb⟩)
    go_ret
    rw [← HE.out]
    exact ⟨rfl, hb⟩
  · have HC := Lib.hid (refRn_none s p w hs hL)
    have HE := Lib.hid (show false = isTF s.data.toList by unfold isTF; rw [hL])
    clear hs hL
    go_enter Tryd.func21, Tryd.ntmps21
    go_wp2_with (go_at_call 42; (with_reducible refine HC.out.mono ?_); rintro e w1 ⟨a, n, c, rfl, hr, hb⟩)
    go_ret
    rw [← HE.out]
    exact ⟨rfl, hb⟩

theorem isT_txt (l : List UInt8) : isTF l = txtF l := by
  rcases runesF_cases l with ⟨x, hx⟩ | ⟨p, hx⟩
  · have h := chkE_some hx; unfold txtF isTF; rw [h, hx]; rfl
  · have h := chkE_none hx; unfold txtF isTF; rw [h, hx]; rfl
/-- Where the first line ends. -/
theorem line_cut : ∀ (l : List UInt8) (k : Nat), (∀ i, i < k → l.getD i 0 ≠ 10) → k < l.length → l.getD k 0 = 10 → linesF l = l.take (k + 1) :: linesF (l.drop (k + 1))
  | [], _, _, h, _ => by simp at h
  | c :: r, 0, _, _, h => by
    have hc : c = 10 := h
    subst hc
    show (if (10 : UInt8) = 10 then [10] :: linesF r else _) = _
    rw [if_pos rfl]; rfl
  | c :: r, k + 1, h1, h2, h3 => by
    have hc : c ≠ 10 := h1 0 (by omega)
    have ih := line_cut r k (fun i hi => h1 (i + 1) (by omega)) (by simpa using h2) h3
    show (if c = 10 then [10] :: linesF r else match linesF r with | [] => [[c]] | l :: ls => (c :: l) :: ls) = _
    rw [if_neg hc, ih]; rfl
theorem line_one : ∀ (l : List UInt8), l ≠ [] → (∀ i, i < l.length → l.getD i 0 ≠ 10) → linesF l = [l]
  | [], h, _ => absurd rfl h
  | c :: r, _, h1 => by
    have hc : c ≠ 10 := h1 0 (by simp)
    show (if c = 10 then [10] :: linesF r else match linesF r with | [] => [[c]] | l :: ls => (c :: l) :: ls) = _
    rw [if_neg hc]
    cases r with
    | nil => rfl
    | cons d r => rw [line_one (d :: r) (by simp) (fun i hi => h1 (i + 1) (by simpa using hi))]
/-- What Split has at i: lines that are done, where the next begins. -/
def SpS (S : List UInt8) (i fr : Nat) (out : List Ln) : Prop := fr ≤ i ∧ out ++ linesF (S.drop fr) = linesF S ∧ ∀ q, fr ≤ q → q < i → S.getD q 0 ≠ 10
theorem SpS.ten {S : List UInt8} {i fr : Nat} {out : List Ln} (h : SpS S i fr out) (hi : i < S.length) (h10 : S.getD i 0 = 10) : SpS S (i + 1) (i + 1) (out ++ [(S.take (i + 1)).drop fr]) := by
  obtain ⟨h1, h2, h3⟩ := h
  refine ⟨Nat.le_refl _, ?_, fun q q1 q2 => by omega⟩
  have e : ∀ q, (S.drop fr).getD q 0 = S.getD (fr + q) 0 := fun q => by rw [List.getD_eq_getElem?_getD, List.getElem?_drop, List.getD_eq_getElem?_getD]
  have hl := line_cut (S.drop fr) (i - fr) (fun q hq => by rw [e]; exact h3 _ (by omega) (by omega)) (by rw [List.length_drop]; omega) (by rw [e, show fr + (i - fr) = i by omega]; exact h10)
  rw [hl, List.drop_drop, show fr + (i - fr + 1) = i + 1 by omega] at h2
  rw [← h2, List.append_assoc, List.drop_take, show i + 1 - fr = i - fr + 1 by omega]; rfl
theorem SpS.other {S : List UInt8} {i fr : Nat} {out : List Ln} (h : SpS S i fr out) (h10 : S.getD i 0 ≠ 10) : SpS S (i + 1) fr out :=
  ⟨Nat.le_succ_of_le h.1, h.2.1, fun q q1 q2 => by
    rcases Nat.lt_or_ge q i with h4 | h4
    · exact h.2.2 q q1 h4
    · obtain rfl : q = i := by omega
      exact h10⟩
theorem SpS.none_ {S : List UInt8} {fr : Nat} {out : List Ln} (h : SpS S S.length fr out) (hf : ¬ fr < S.length) : out = linesF S := by
  have h2 := h.2.1
  rw [List.drop_eq_nil_of_le (by omega)] at h2
  rw [← h2]; show out = out ++ []; rw [List.append_nil]
theorem SpS.last {S : List UInt8} {fr : Nat} {out : List Ln} (h : SpS S S.length fr out) (hf : fr < S.length) : out ++ [S.drop fr] = linesF S := by
  have e : ∀ q, (S.drop fr).getD q 0 = S.getD (fr + q) 0 := fun q => by rw [List.getD_eq_getElem?_getD, List.getElem?_drop, List.getD_eq_getElem?_getD]
  rw [← h.2.1, line_one (S.drop fr) (fun e0 => by have := congrArg List.length e0; rw [List.length_drop] at this; simp at this; omega) (fun q hq => by rw [e]; exact h.2.2 _ (by omega) (by rw [List.length_drop] at hq; omega))]
theorem SpS.len {S : List UInt8} {i fr : Nat} {out : List Ln} (h : SpS S i fr out) : out.length ≤ S.length := by
  have h1 := congrArg List.length h.2.1
  rw [List.length_append] at h1
  have := lines_len S
  omega
theorem ext_strB (S : List UInt8) (p q : Nat) : (strB S).extract p q = strB ((S.take q).drop p) := by
  have h : ((strB S).extract p q).data.toList = (S.take q).drop p := by rw [b_extH, strB_list, List.drop_take]
  have h2 := strB_of ((strB S).extract p q)
  rw [h] at h2; exact h2.symm
set_option maxRecDepth 100000 in
set_option maxHeartbeats 2000000 in
theorem refSplit_any (S : List UInt8) (w : World) (hs : S.length ≤ 4000000) : Calls Tryd.prog 14 #[.string (strB S)] w (LnsIs (linesF S) w) := by
  have HS := Lib.hid hs
  obtain ⟨m, hm⟩ : ∃ m, (strB S).size = m := ⟨_, rfl⟩
  have HM : Hid (S.length = m) := Lib.hid (by rw [← hm, strB_size])
  have hmI : (m : Int) ≤ 4000000 := by rw [← hm, strB_size]; omega
  clear hs
  go_enter Tryd.func14, Tryd.ntmps14
  go_wp2
  go_loopg [3, 4, 5] m (fun gk v3 v4 v5 W => ∃ (i fr : Nat) (out : List Ln) (a4 : Option Addr) (n4 c4 : Nat), v5 = .int .i64 (i : Nat) ∧ v4 = .int .i64 (fr : Nat) ∧ v3 = .slice a4 n4 c4 ∧ Hid (gk + i = m) ∧ Hid (SpS S i fr out) ∧ Hid (OwnG lnK 9 W w.heap.size (.slice a4 n4 c4) out) ∧ Hid (Below w.heap.size w W))
  case atStart => exact ⟨0, 0, [], none, 0, 0, rfl, rfl, rfl, Lib.hid rfl, Lib.hid ⟨Nat.le_refl _, by rw [List.drop_zero]; rfl, fun q q1 q2 => by omega⟩, Lib.hid OwnG.nil, Lib.hid (Below.refl _ _)⟩
  case round =>
    obtain ⟨i, fr, out, a4, n4, c4, rfl, rfl, rfl, HI, HSP, HO, HB⟩ := hrel
    have HOL : Hid (out.length ≤ 4000000) := Lib.hid (Nat.le_trans HSP.out.len HS.out)
    have hf0 : (0 : Int) ≤ (fr : Int) := by omega
    by_cases hi : (i : Int) < (m : Int)
    · have hks : i < (strB S).size := by rw [hm]; omega
      have hby := byte_at hks
      have HIN : Hid (i < m) := Lib.hid (by omega)
      have hi0 : (0 : Int) ≤ (i : Int) := by omega
      have W1 : IntKind.i64.wrap ((i : Int) + 1) = (i : Int) + 1 := IntWalk.i64_in _ (by omega)
      have f1 : (fr : Int) ≤ (i : Int) + 1 := by have := HSP.out.1; omega
      have f1n : fr ≤ i + 1 := by have := HSP.out.1; omega
      have f2 : (i : Int) + 1 ≤ (m : Int) := by omega
      have f2n : i + 1 ≤ m := by omega
      have hex := ext_strB S fr (i + 1)
      by_cases h10 : S.getD i 0 = 10
      · have hq : ((((strB S)[i]'hks).toNat : Int) == 10) = true := by rw [hby, h10]; rfl
        have HN := Lib.hid (HSP.out.ten (by have := HM.out; omega) h10)
        clear hby h10
        go_wp2_with (at_builtin; go_loud (refine appG lnK Tryd.underlying32 infoStH rfl rfl _ _ rfl w.heap.size _ out rfl (HO.out.alloc _) (some ⟨wr.heap.size, 0, none⟩) 1 1 [(S.take (i + 1)).drop fr] rfl (oneG wr ((S.take (i + 1)).drop fr) trivial 9 _ rfl) (by have h1 := HOL.out; omega) (by have := HB.out.size; simp; omega) (out.length + 1) rfl ?_); intro a6 c6 w6 ho hg; have HO6 := Lib.hid ho; have HB6 := Lib.hid ((HB.out.alloc HB.out.size _).grown hg (by have := HB.out.size; simp; omega) (fun k h => (HO.out.lt k h).1)); clear ho hg)
        go_roundg (gk - 1)
        case measure => have h1 := HI.out; have h2 := HIN.out; omega
        case rel => exact ⟨i + 1, i + 1, _, a6, _, c6, by go_num, by go_num, rfl, Lib.hid (by have h1 := HI.out; have h2 := HIN.out; omega), HN, HO6, HB6⟩
      · have hq : ((((strB S)[i]'hks).toNat : Int) == 10) = false := by rw [hby]; exact ne_ten h10
        have HN := Lib.hid (HSP.out.other h10)
        clear hby h10
        go_wp2
        go_roundg (gk - 1)
        case measure => have h1 := HI.out; have h2 := HIN.out; omega
        case rel => exact ⟨i + 1, fr, out, a4, n4, c4, by go_num, rfl, rfl, Lib.hid (by have h1 := HI.out; have h2 := HIN.out; omega), HN, HO, HB⟩
    · have him : i = S.length := by have h1 := HI.out; have h2 := HM.out; omega
      have hsp := HSP.out
      rw [him] at hsp
      by_cases hf : (fr : Int) < (m : Int)
      · have HE := Lib.hid (hsp.last (by have := HM.out; omega))
        have hex : (strB S).extract fr m = strB (S.drop fr) := by rw [ext_strB, List.take_of_length_le (by have := HM.out; omega)]
        have f1 : (fr : Int) ≤ (m : Int) := by omega
        have f1n : fr ≤ m := by omega
        clear him hsp
        go_wp2_with (at_builtin; go_loud (refine appG lnK Tryd.underlying32 infoStH rfl rfl _ _ rfl w.heap.size _ out rfl (HO.out.alloc _) (some ⟨wr.heap.size, 0, none⟩) 1 1 [S.drop fr] rfl (oneG wr (S.drop fr) trivial 9 _ rfl) (by have h1 := HOL.out; omega) (by have := HB.out.size; simp; omega) (out.length + 1) rfl ?_); intro a6 c6 w6 ho hg; have HO6 := Lib.hid ho; have HB6 := Lib.hid ((HB.out.alloc HB.out.size _).grown hg (by have := HB.out.size; simp; omega) (fun k h => (HO.out.lt k h).1)); clear ho hg)
        go_ret
        exact ⟨a6, _, c6, rfl, by rw [← HE.out]; exact HO6.out.atG, HB6.out⟩
      · have HE := Lib.hid (hsp.none_ (by have := HM.out; omega))
        clear him hsp
        go_wp2
        go_ret
        exact ⟨a4, n4, c4, rfl, by rw [← HE.out]; exact HO.out.atG, HB.out⟩
set_option maxRecDepth 100000 in
set_option maxHeartbeats 1000000 in
theorem refNumber_any (a : Option Addr) (n c : Nat) (L : List Ln) (s : Ln) (w : World) (hL : AtG lnK w a n c L) (hn : n ≤ 100000) :
    Calls Tryd.prog 22 #[.slice a n c, .string (strB s)] w fun e w' => e = .returned (.int .i32 (L.idxOf s : Nat)) ∧ w' = w := by
  have HL := Lib.hid hL
  have HN : Hid (L.length = n) := Lib.hid hL.1
  obtain ⟨z, hz⟩ : ∃ z, L.idxOf s = z := ⟨_, rfl⟩
  have HZ := Lib.hid hz
  rw [hz]
  clear hL hz
  go_enter Tryd.func22, Tryd.ntmps22
  go_wp2
  go_loopg [5] n (fun gk v5 W => ∃ i : Nat, W = w ∧ v5 = .int .i64 (i : Nat) ∧ Hid (gk + i = n) ∧ Hid ((L.drop i).idxOf s + i = z))
  case atStart => exact ⟨0, rfl, rfl, Lib.hid rfl, Lib.hid (by rw [List.drop_zero]; exact HZ.out)⟩
  case round =>
    obtain ⟨i, rfl, rfl, HI, HD⟩ := hrel
    have hiI : (i : Int) ≤ 100000 := by have := HI.out; omega
    have W3 : IntKind.i32.wrap (i : Int) = (i : Int) := by unfold IntKind.wrap; simp [IntKind.signed, IntKind.bits]; omega
    by_cases hi : (i : Int) < (n : Int)
    · obtain ⟨b, off, rfl⟩ := HL.out.some_ (by omega)
      obtain ⟨x, hx⟩ : ∃ x, L.getD i [] = x := ⟨_, rfl⟩
      have hcell := ln_cell HL.out i (by omega)
      rw [hx] at hcell
      have hil : i < L.length := by have := HN.out; omega
      have hd := HD.out
      rw [List.drop_eq_getElem_cons hil, show L[i] = x from by rw [← hx, List.getD_eq_getElem?_getD, List.getElem?_eq_getElem hil]; rfl, List.idxOf_cons] at hd
      have hi0 : (0 : Int) ≤ (i : Int) := by omega
      have HIN : Hid (i < n) := Lib.hid (by omega)
      have W1 : IntKind.i64.wrap ((i : Int) + 1) = (i : Int) + 1 := IntWalk.i64_in _ (by omega)
      have ee := ent_eqH x s
      by_cases hxs : x = s
      · have e1 : ((strB x).toList == (strB s).toList) = true := by rw [ee]; simp [hxs]
        have HE : Hid (i = z) := Lib.hid (by rw [hxs] at hd; simpa using hd)
        clear ee hxs hx hil hd
        go_wp2
        go_ret
        exact ⟨by rw [HE.out]; rfl, rfl⟩
      · have e1 : ((strB x).toList == (strB s).toList) = false := by rw [ee]; simp [hxs]
        have HE : Hid ((L.drop (i + 1)).idxOf s + (i + 1) = z) := Lib.hid (by rw [beq_eq_false_iff_ne.2 hxs] at hd; simp only [cond_false] at hd; omega)
        clear ee hxs hx hil hd
        go_wp2
        go_roundg (gk - 1)
        case measure => have h1 := HI.out; have h2 := HIN.out; omega
        case rel => exact ⟨i + 1, rfl, by go_num, Lib.hid (by have h1 := HI.out; have h2 := HIN.out; omega), HE⟩
    · have hin : i = n := by have := HI.out; omega
      have HE : Hid (n = z) := Lib.hid (by have h1 := HD.out; rw [List.drop_eq_nil_of_le (by rw [HN.out, hin]; exact Nat.le_refl _)] at h1; simp at h1; omega)
      subst hin
      go_wp2
      go_ret
      exact ⟨by rw [HE.out]; rfl, rfl⟩
#print axioms refSplit_any
#print axioms refNumber_any
end Go.Proofs.YtfoalaoanpbmeaaDoor

namespace Go.Proofs.YtfoalaoanpbmeaaDoor
open Go.RowKit Go.Lib My

abbrev RunkT : TypeId := 55
theorem infoRk : (Tryd.prog.info? RunkT).map (fun i => (i.zero, i.size, i.bytes)) = some (some (.agg #[.int .i64 0, .int .i64 0, .slice none 0 0]), 3, 40) := by kernel_rfl
def rowR (a : Option Addr) (c : Nat) (V : List (HkV × Value)) : Hold := hG hkK RunkT (.slice a V.length c) V
/-- The hunks in memory: their row, and each one's lines, none in a block of another one. -/
def RkH (W : World) (base : Nat) (a : Option Addr) (c : Nat) (V : List (HkV × Value)) : Prop := Holds W base (rowR a c V :: V.reverse.map lnH) ∧ ∀ x ∈ V, x.2.oneCell' = true
section
variable {W W' : World} {base : Nat} {a : Option Addr} {c : Nat} {V : List (HkV × Value)}
theorem RkH.row (h : RkH W base a c V) : OwnG hkK RunkT W base (.slice a V.length c) V := ⟨h.1.own (rowR a c V) (List.mem_cons_self ..), h.2⟩
theorem RkH.ln (h : RkH W base a c V) {x : HkV × Value} (hx : x ∈ V) : OwnG lnK 9 W base x.2 x.1.ls := ⟨h.1.own (lnH x) (List.mem_cons_of_mem _ (List.mem_map.2 ⟨x, by simpa using hx, rfl⟩)), fun _ _ => trivial⟩
theorem RkH.below (h : RkH W base a c V) (hb : Below W.heap.size W W') : RkH W' base a c V := ⟨h.1.below hb, h.2⟩
theorem RkH.setLow (h : RkH W base a c V) {g : Nat} (hg : g < base) (u : Value) : RkH (W.setCell ⟨g, 0, none⟩ u) base a c V := ⟨h.1.setLow hg 0 u, h.2⟩
/-- A hunk more, without lines. -/
theorem RkH.more (h : RkH W base a c V) (y : HkV) (hy : y.ls = []) {a' : Option Addr} {c' : Nat} (ho : OwnG hkK RunkT W' base (.slice a' (V.length + 1) c') (V ++ [(y, .slice none 0 0)])) (hg : W.grownBy W' (Value.slice a V.length c).ownBlock) (ht : Told W (.slice a V.length c) (.slice a' (V.length + 1) c')) : RkH W' base a' c' (V ++ [(y, .slice none 0 0)]) := by
  have h1 := h.1.put (h' := rowR a' c' (V ++ [(y, .slice none 0 0)])) hg (by
    have := ho.1
    have e : (V ++ [(y, Value.slice none 0 0)]).length = V.length + 1 := by simp
    show W'.ownsRow base RunkT 3 (.slice a' (V ++ [(y, Value.slice none 0 0)]).length c') (V ++ [(y, Value.slice none 0 0)]).length (flatG hkK (V ++ [(y, Value.slice none 0 0)]))
    rw [e]
    rw [e] at this
    exact this) (by
    show Told W (.slice a V.length c) (.slice a' (V ++ [(y, Value.slice none 0 0)]).length c')
    rw [List.length_append]; exact ht)
  obtain ⟨h2, h3⟩ := h1
  obtain ⟨h4, h5⟩ := List.pairwise_cons.1 h3
  have hn : (lnH (y, .slice none 0 0)).At W' base := by
    show W'.ownsRow base 9 1 (.slice none 0 0) y.ls.length (flatG lnK y.ls)
    rw [hy]; exact World.ownsRow_nil _ _ _ _
  have e : (V ++ [(y, Value.slice none 0 0)]).reverse.map lnH = lnH (y, .slice none 0 0) :: V.reverse.map lnH := by rw [List.reverse_append]; rfl
  refine ⟨⟨fun x hx => ?_, ?_⟩, fun x hx => ?_⟩
  · rw [e] at hx
    rcases List.mem_cons.1 hx with rfl | hx
    · exact h2 _ (by simp)
    · rcases List.mem_cons.1 hx with rfl | hx
      · exact hn
      · exact h2 x (List.mem_cons_of_mem _ hx)
  · rw [e]
    refine List.pairwise_cons.2 ⟨fun x hx => ?_, List.pairwise_cons.2 ⟨(fun x _ k hk => by cases hk), h5⟩⟩
    rcases List.mem_cons.1 hx with rfl | hx
    · exact fun k _ hk => by cases hk
    · exact h4 x hx
  · rcases List.mem_append.1 hx with hx | hx
    · exact h.2 x hx
    · rw [List.mem_singleton.1 hx]; rfl
/-- A line more in the last hunk; its slice stored into the row. -/
theorem RkH.line {y : HkV} {v v' : Value} {l' : List Ln} {w' : World} {g : Nat} (h : RkH W base (some ⟨g, 0, none⟩) c (V ++ [(y, v)])) (ho : OwnG lnK 9 w' base v' l') (hv' : v'.oneCell' = true) (hg : W.grownBy w' v.ownBlock) (ht : Told W v v') :
    RkH (w'.setCell ⟨g, V.length * 3 + 2, none⟩ v') base (some ⟨g, 0, none⟩) c (V ++ [(⟨y.f, y.t, l'⟩, v')]) := by
  have e : ∀ z : HkV × Value, (V ++ [z]).reverse.map lnH = lnH z :: V.reverse.map lnH := fun z => by rw [List.reverse_append]; rfl
  have h1 := h.1
  rw [e] at h1
  have h2 := (h1.perm (List.Perm.swap _ _ _)).put (h' := lnH (⟨y.f, y.t, l'⟩, v')) hg ho.1 ht
  have h3 := h2.perm (List.Perm.swap _ _ _)
  have hrow : OwnG hkK RunkT w' base (.slice (some ⟨g, 0, none⟩) (V ++ [(y, v)]).length c) (V ++ [(y, v)]) := ⟨h3.own (rowR (some ⟨g, 0, none⟩) c (V ++ [(y, v)])) (List.mem_cons_self ..), h.2⟩
  have hst := hrow.store (j := V.length) (i := 2) (by simp) (by decide) v' (⟨y.f, y.t, l'⟩, v') (by
    have e2 : gd (V ++ [(y, v)]) V.length = (y, v) := by unfold gd; simp
    rw [e2]; rfl) hv'
  have e3 : (V ++ [(y, v)]).set V.length (⟨y.f, y.t, l'⟩, v') = V ++ [(⟨y.f, y.t, l'⟩, v')] := by rw [List.set_append_right _ _ (Nat.le_refl _), Nat.sub_self]; rfl
  rw [e3] at hst
  have el : (V ++ [(y, v)]).length = (V ++ [((⟨y.f, y.t, l'⟩ : HkV), v')]).length := by simp
  refine ⟨?_, hst.2⟩
  rw [e]
  refine h3.put (h' := rowR (some ⟨g, 0, none⟩) c (V ++ [(⟨y.f, y.t, l'⟩, v')])) (grown_set w' g (V.length * 3 + 2) v') ?_ (.inl ?_)
  · have := hst.1
    rw [el] at this
    exact this
  · show (Value.slice (some ⟨g, 0, none⟩) (V ++ [((⟨y.f, y.t, l'⟩ : HkV), v')]).length c).ownBlock = (Value.slice (some ⟨g, 0, none⟩) (V ++ [(y, v)]).length c).ownBlock
    rw [el]
end
theorem RkH.slot {W : World} {base : Nat} {c : Nat} {V : List (HkV × Value)} {y : HkV} {v v' : Value} {l' : List Ln} {w' : World} {g : Nat} (h : RkH W base (some ⟨g, 0, none⟩) c (V ++ [(y, v)])) (ho : OwnG lnK 9 w' base v' l') (hg : W.grownBy w' v.ownBlock) (ht : Told W v v') :
    w'.cell? ⟨g, V.length * 3 + 2, none⟩ = some v ∧ w'.frozen? ⟨g, V.length * 3 + 2, none⟩ = false ∧ base ≤ g := by
  have e : ∀ z : HkV × Value, (V ++ [z]).reverse.map lnH = lnH z :: V.reverse.map lnH := fun z => by rw [List.reverse_append]; rfl
  have h1 := h.1
  rw [e] at h1
  have h2 := (h1.perm (List.Perm.swap _ _ _)).put (h' := lnH (⟨y.f, y.t, l'⟩, v')) hg ho.1 ht
  have h3 := h2.perm (List.Perm.swap _ _ _)
  have hrow : OwnG hkK RunkT w' base (.slice (some ⟨g, 0, none⟩) (V ++ [(y, v)]).length c) (V ++ [(y, v)]) := ⟨h3.own (rowR (some ⟨g, 0, none⟩) c (V ++ [(y, v)])) (List.mem_cons_self ..), h.2⟩
  obtain ⟨g', hg', h5, _, h6⟩ := hrow.row (by simp)
  obtain rfl : g = g' := by injection hg' with e1; injection e1
  refine ⟨?_, h6 _, h5⟩
  have := hrow.atG.cell V.length (by simp) 2 v (by
    have e2 : gd (V ++ [(y, v)]) V.length = (y, v) := by unfold gd; simp
    rw [e2]; rfl)
  rw [show 0 + V.length * hkK.k + 2 = V.length * 3 + 2 by show 0 + V.length * 3 + 2 = _; omega] at this
  exact this
theorem RkH.slot0 {W : World} {base : Nat} {c : Nat} {V : List (HkV × Value)} {y : HkV} {v : Value} {g : Nat} (h : RkH W base (some ⟨g, 0, none⟩) c (V ++ [(y, v)])) : W.cell? ⟨g, V.length * 3 + 2, none⟩ = some v := by
  have := h.row.atG.cell V.length (by simp) 2 v (by
    have e2 : gd (V ++ [(y, v)]) V.length = (y, v) := by unfold gd; simp
    rw [e2]; rfl)
  rw [show 0 + V.length * hkK.k + 2 = V.length * 3 + 2 by show 0 + V.length * 3 + 2 = _; omega] at this
  exact this
theorem rk_nil (W : World) (base : Nat) : RkH W base none 0 [] := by
  refine ⟨⟨fun h hm => ?_, List.pairwise_singleton _ _⟩, (fun x hx => by cases hx)⟩
  obtain rfl : h = rowR none 0 [] := by simpa using hm
  exact World.ownsRow_nil _ _ _ _
/-- Scripts hang on which lines are the same, alone. -/
theorem scr_inj (a b : List Ln) (f g : Ln → Int) (hf : ∀ x ∈ a, ∀ y ∈ b, f x = f y → x = y) (hg : ∀ x ∈ a, ∀ y ∈ b, g x = g y → x = y) : scr (a.map f) (b.map f) = scr (a.map g) (b.map g) := by
  unfold scr
  rw [List.length_map, List.length_map, List.length_map, List.length_map]
  refine mv_congr _ _ _ (Nat.le_refl _) (fun i j hi hj => ?_)
  have e : ∀ h : Ln → Int, (∀ x ∈ a, ∀ y ∈ b, h x = h y → x = y) → eq2 (a.map h) (b.map h) i j = decide (a.getD (a.length - 1 - i) [] = b.getD (b.length - 1 - j) []) := fun h hh => by
    have h1 : a.length - 1 - i < a.length := by omega
    have h2 : b.length - 1 - j < b.length := by omega
    have e1 : (a.map h).getD (a.length - 1 - i) 0 = h (a.getD (a.length - 1 - i) []) := by simp [List.getD_eq_getElem?_getD, h1]
    have e2 : (b.map h).getD (b.length - 1 - j) 0 = h (b.getD (b.length - 1 - j) []) := by simp [List.getD_eq_getElem?_getD, h2]
    unfold eq2
    rw [List.length_map, List.length_map, e1, e2, Bool.eq_iff_iff, beq_iff_eq, decide_eq_true_iff]
    exact ⟨fun e => hh _ (getD_mem h1) _ (getD_mem h2) e, fun e => by rw [e]⟩
  rw [e f hf, e g hg]
theorem idx_scr (a b : List Ln) : scr (a.map fun x => (((a ++ b).idxOf x : Nat) : Int)) (b.map fun x => (((a ++ b).idxOf x : Nat) : Int)) = scrL a b := by
  obtain ⟨H, h1, h2, h3, h4⟩ := nums_two a b
  unfold scrL
  rw [h3, h4]
  exact scr_inj a b _ _ (fun x hx y _ e => idx_inj (H := a ++ b) (List.mem_append_left b hx) (by omega)) (fun x hx y _ e => idx_inj (h1 x hx) (by omega))
/-- Near, told step by step. -/
def nearQ (ms : List Int) (n q : Nat) : Bool := (List.range q).any fun t => decide (3 ≤ n + t ∧ n + t - 3 < ms.length) && (ms.getD (n + t - 3) 0 != 1)
theorem nearQ_succ (ms : List Int) (n q : Nat) : nearQ ms n (q + 1) = (nearQ ms n q || (decide (3 ≤ n + q ∧ n + q - 3 < ms.length) && (ms.getD (n + q - 3) 0 != 1))) := by
  unfold nearQ; rw [List.range_succ, List.any_append]; simp
theorem nearQ_all (ms : List Int) (n : Nat) : nearQ ms n 7 = nearF ms n := by
  rw [Bool.eq_iff_iff]
  constructor
  · intro h
    unfold nearQ at h
    obtain ⟨t, ht, h1⟩ := List.any_eq_true.1 h
    rw [Bool.and_eq_true, decide_eq_true_iff] at h1
    obtain ⟨⟨h2, h3⟩, h4⟩ := h1
    have ht7 : t < 7 := List.mem_range.1 ht
    have hne : ms.getD (n + t - 3) 0 ≠ 1 := by simpa using h4
    have e : n - 3 + (n + t - 3 - (n - 3)) = n + t - 3 := by omega
    exact near_yes (k := n + t - 3 - (n - 3)) (by omega) (by omega) (by rw [e]; exact hne)
  · intro h
    obtain ⟨q, q1, q2, q3, q4⟩ := near_ex h
    unfold nearQ
    refine List.any_eq_true.2 ⟨q + 3 - n, List.mem_range.2 (by omega), ?_⟩
    have e : n + (q + 3 - n) - 3 = q := by omega
    rw [e, Bool.and_eq_true, decide_eq_true_iff]
    exact ⟨⟨by omega, q1⟩, by simpa using q4⟩
#print axioms idx_scr
#print axioms nearQ_all
end Go.Proofs.YtfoalaoanpbmeaaDoor

namespace Go.Proofs.YtfoalaoanpbmeaaDoor
open Go.RowKit Go.Lib

/-- Hunks that can be read. -/
def HkR (w : World) (a : Option Addr) (n c : Nat) (V : List (HkV × Value)) : Prop := AtG hkK w a n c V ∧ ∀ x ∈ V, ∃ a2 n2 c2, x.2 = .slice a2 n2 c2 ∧ AtG lnK w a2 n2 c2 x.1.ls
theorem HkR.below {w w' : World} {a : Option Addr} {n c : Nat} {V : List (HkV × Value)} (h : HkR w a n c V) (hb : Below w.heap.size w w') : HkR w' a n c V :=
  ⟨h.1.below hb, fun x hx => by obtain ⟨a2, n2, c2, h1, h2⟩ := h.2 x hx; exact ⟨a2, n2, c2, h1, h2.below hb⟩⟩
theorem HkR.at_ {w : World} {b off n c : Nat} {V : List (HkV × Value)} (h : HkR w (some ⟨b, off, none⟩) n c V) {k : Nat} (hk : k < n) : ∃ a2 n2 c2, w.cell? ⟨b, off + k * 3, none⟩ = some (.int .i64 ((gd V k).1.f : Nat)) ∧ w.cell? ⟨b, off + k * 3 + 1, none⟩ = some (.int .i64 ((gd V k).1.t : Nat)) ∧ w.cell? ⟨b, off + k * 3 + 2, none⟩ = some (.slice a2 n2 c2) ∧ AtG lnK w a2 n2 c2 (gd V k).1.ls := by
  have hl := h.1.1
  obtain ⟨a2, n2, c2, h1, h2⟩ := h.2 (gd V k) (gd_mem (by omega))
  have c0 := h.1.cell k hk 0 _ rfl
  have c1 := h.1.cell k hk 1 _ rfl
  have c3 := h.1.cell k hk 2 _ rfl
  rw [h1] at c3
  exact ⟨a2, n2, c2, c0, c1, c3, h2⟩
set_option maxRecDepth 100000 in
set_option maxHeartbeats 4000000 in
theorem same_yes (a a' : Option Addr) (n c n' c' : Nat) (V V' : List (HkV × Value)) (w : World) (h : HkR w a n c V) (h' : HkR w a' n' c' V') (hv : V.map (·.1) = V'.map (·.1)) (hn : n ≤ 100000) (hl : ∀ x ∈ V, x.1.ls.length ≤ 100000) :
    Calls Tryd.prog 10 #[.slice a n c, .slice a' n' c'] w fun e w' => e = .returned (.bool true) ∧ Below w.heap.size w w' := by
  obtain rfl : n = n' := by have h1 := h.1.1; have h2 := h'.1.1; have h3 := congrArg List.length hv; rw [List.length_map, List.length_map] at h3; omega
  have HA := Lib.hid h
  have HB := Lib.hid h'
  have HN : Hid (n ≤ 100000 ∧ V.length = n ∧ V'.length = n) := Lib.hid ⟨hn, h.1.1, h'.1.1⟩
  have HG : Hid (∀ k, k < n → (gd V k).1 = (gd V' k).1) := Lib.hid (fun k hk => by
    have h1 : (V.map (·.1))[k]? = (V'.map (·.1))[k]? := by rw [hv]
    have h2 : k < V.length := by have := h.1.1; omega
    have h3 : k < V'.length := by have := h'.1.1; omega
    unfold gd
    rw [List.getElem?_map, List.getElem?_map, List.getElem?_eq_getElem h2, List.getElem?_eq_getElem h3] at h1
    rw [List.getD_eq_getElem?_getD, List.getD_eq_getElem?_getD, List.getElem?_eq_getElem h2, List.getElem?_eq_getElem h3]
    exact Option.some.inj h1)
  have HL := Lib.hid hl
  clear h h' hv hn hl
  go_enter Tryd.func10, Tryd.ntmps10
  go_wp2
  go_loopg [5] n (fun gk v5 W => ∃ i : Nat, v5 = .int .i64 (i : Nat) ∧ Hid (gk + i = n) ∧ Hid (Below w.heap.size w W))
  case atStart => exact ⟨0, rfl, Lib.hid rfl, Lib.hid (Below.refl _ _)⟩
  case round =>
    obtain ⟨i, rfl, HI, HB1⟩ := hrel
    by_cases hi : (i : Int) < (n : Int)
    · obtain ⟨b, off, rfl⟩ := HA.out.1.some_ (by omega)
      obtain ⟨b', off', rfl⟩ := HB.out.1.some_ (by omega)
      obtain ⟨a2, n2, c2, p0, p1, p2, hA2⟩ := (HA.out.below HB1.out).at_ (k := i) (by omega)
      obtain ⟨a3, n3, c3, r0, r1, r2, hA3⟩ := (HB.out.below HB1.out).at_ (k := i) (by omega)
      rw [← HG.out i (by omega)] at r0 r1 hA3
      have hll := HL.out (gd V i) (gd_mem (by have := HN.out; omega))
      obtain ⟨⟨f, t, ls⟩, hy⟩ : ∃ y, (gd V i).1 = y := ⟨_, rfl⟩
      rw [hy] at p0 p1 r0 r1 hA2 hA3 hll
      obtain rfl : n2 = n3 := hA2.1.symm.trans hA3.1
      have HLS : Hid (ls.length = n2 ∧ ls.length ≤ 100000) := Lib.hid ⟨hA2.1, hll⟩
      have HA2 := Lib.hid hA2
      have HA3 := Lib.hid hA3
      have HKC : Hid (∀ W, Below wr.heap.size wr W → W.cell? ⟨b, off + i * 3 + 2, none⟩ = some (.slice a2 n2 c2) ∧ W.cell? ⟨b', off' + i * 3 + 2, none⟩ = some (.slice a3 n2 c3)) := Lib.hid (fun W hW => ⟨(hW.cell (World.block_lt_of_cell? _ _ p2)).trans p2, (hW.cell (World.block_lt_of_cell? _ _ r2)).trans r2⟩)
      have HIN : Hid (i < n) := Lib.hid (by omega)
      have hi0 : (0 : Int) ≤ (i : Int) := by omega
      have W1 : IntKind.i64.wrap ((i : Int) + 1) = (i : Int) + 1 := IntWalk.i64_in _ (by have := HN.out; omega)
      have hf0 : ((f : Int) == (f : Int)) = true := beq_self_eq_true _
      have ht0 : ((t : Int) == (t : Int)) = true := beq_self_eq_true _
      clear hy hll hA2 hA3
      go_wp2
      go_quiet (fail)
      have HBq := Lib.hid (below_drewH HB1.out nq)
      have HBr := Lib.hid (below_drewH (Below.refl wr.heap.size wr) nq)
      obtain ⟨wq, hwq⟩ : ∃ W, W = wr.drewN nq := ⟨_, rfl⟩
      rw [← hwq] at HBq HBr ⊢
      clear p0 p1 p2 r0 r1 r2 hwq
      go_wp2
      go_loopg [6] n2 (fun gq v6 W => ∃ k : Nat, v6 = .int .i64 (k : Nat) ∧ Hid (gq + k = n2) ∧ Hid (Below w.heap.size w W) ∧ Hid (Below wr.heap.size wr W))
      case atStart => exact ⟨0, rfl, Lib.hid rfl, HBq, HBr⟩
      case round =>
        clear HBq HBr
        obtain ⟨k, rfl, HK, HBK, HBR⟩ := hrel
        obtain ⟨m1, m2⟩ := HKC.out wr HBR.out
        have hk0 : (0 : Int) ≤ (k : Int) := by omega
        by_cases hk : (k : Int) < (n2 : Int)
        · have HKM : Hid (k < n2) := Lib.hid (by omega)
          obtain ⟨b2, o2, rfl⟩ := HA2.out.some_ (by omega)
          obtain ⟨b3, o3, rfl⟩ := HA3.out.some_ (by omega)
          obtain ⟨x, hx⟩ : ∃ x, ls.getD k [] = x := ⟨_, rfl⟩
          have k1 := ln_cell (HA2.out.below HBR.out) k HKM.out
          have k2 := ln_cell (HA3.out.below HBR.out) k HKM.out
          rw [hx] at k1 k2
          have e1 : ((strB x).toList == (strB x).toList) = true := beq_self_eq_true _
          have e2 : ((strB x).toList != (strB x).toList) = false := by rw [bne, e1]; rfl
          have W2 : IntKind.i64.wrap ((k : Int) + 1) = (k : Int) + 1 := IntWalk.i64_in _ (by have := HLS.out; omega)
          clear hx
          go_wp2
          go_quiet (fail)
          have HBq := Lib.hid (below_drewH HBK.out nq)
          have HBr := Lib.hid (below_drewH HBR.out nq)
          generalize wr.drewN nq = wq2 at HBq HBr ⊢
          clear k1 k2 m1 m2
          go_wp2
          go_roundg (gk - 1)
          case measure => have h1 := HK.out; have h2 := HKM.out; omega
          case rel => exact ⟨k + 1, by go_num, Lib.hid (by have h1 := HK.out; have h2 := HKM.out; omega), HBq, HBr⟩
        · go_wp2
          go_roundg (n - (i + 1))
          case measure => have h1 := HI.out; have h2 := HIN.out; omega
          case rel => exact ⟨i + 1, by go_num, Lib.hid (by have h1 := HI.out; have h2 := HIN.out; omega), HBK⟩
    · go_wp2
      go_ret
      exact ⟨rfl, HB1.out⟩
#print axioms same_yes
end Go.Proofs.YtfoalaoanpbmeaaDoor

namespace Go.Proofs.YtfoalaoanpbmeaaDoor
open Go.RowKit Go.Lib

theorem wp_appG_told2 {α : Type} [Inhabited α] (K : Kind α) {T E : TypeId} {z : Value} {by_ : Nat} (hU : Tryd.prog.underlying T = some (.slice E)) (hI : (Tryd.prog.info? E).map (fun i => (i.zero, i.size, i.bytes)) = some (some z, K.k, by_)) (hz : z.cells.size = K.k)
    {w : World} {o : Oper} {a : Act} {K' : Act → World → Prop} {Q : Exit → Act → World → Prop} (s x : Operand)
    (ho : o.op = .call { callee := .builtin .append, args := #[s, x], argTypes := #[T, T] })
    (base : Nat) (v : Value) (l : List α) (hs : a.eval s = v) (hown : OwnG K E w base v l)
    (sa : Option Addr) (m c : Nat) (src : List α) (hx : a.eval x = .slice sa m c) (hsrc : AtG K w sa m c src)
    (h48 : (l.length + m) * (by_ + 1) ≤ 140737488355328) (hbase : base ≤ w.heap.size) (r : Nat) (hr : r = l.length + m)
    (h : ∀ a' c' w', OwnG K E w' base (.slice a' r c') (l ++ src) → w.grownBy w' v.ownBlock → Told w v (.slice a' r c') → K' (a.put o.dst (.slice a' r c')) w') : o.wp Tryd.prog a w K' Q := by
  obtain ⟨a', c', w', hrun, h1, h2, h3⟩ := run_appG_told K o.type hU hI hz w base v l hown sa m c src hsrc h48 hbase r hr
  exact Lib.wp_append_run _ s x _ _ ho _ _ hs hx _ _ hrun (h a' c' w' h1 h2 h3)
set_option maxRecDepth 100000 in
set_option maxHeartbeats 4000000 in
theorem of_any (a5 : Option Addr) (c5 base N : Nat) (V : List (HkV × Value)) (w : World) (hH : HkH w base a5 c5 V) (hN : V.length = N) (hn : N ≤ 10000) :
    Calls Tryd.prog 11 #[.slice a5 N c5] w fun e w' => ∃ a c, e = .returned (.slice a N c) ∧ HkR w' a N c V ∧ Below w.heap.size w w' := by
  have HH := Lib.hid hH
  have HN : Hid (V.length = N ∧ N ≤ 10000) := Lib.hid ⟨hN, hn⟩
  clear hH hN hn
  go_enter Tryd.func11, Tryd.ntmps11
  go_wp2
  go_loopg [3, 4] N (fun gk v3 v4 W => ∃ (i : Nat) (a4 : Option Addr) (n4 c4 : Nat), v4 = .int .i64 (i : Nat) ∧ v3 = .slice a4 n4 c4 ∧ Hid (gk + i = N) ∧ Hid (OwnG hkK RunkT W w.heap.size (.slice a4 n4 c4) (V.take i)) ∧ Hid (Below w.heap.size w W))
  case atStart => exact ⟨0, none, 0, 0, rfl, rfl, Lib.hid rfl, Lib.hid OwnG.nil, Lib.hid (Below.refl _ _)⟩
  case round =>
    obtain ⟨i, a4, n4, c4, rfl, rfl, HI, HO, HB⟩ := hrel
    by_cases hi : (i : Int) < (N : Int)
    · have hiV : i < V.length := by have := HN.out; omega
      obtain ⟨g, m, a9, c9, rfl, k0, k1, k2, _⟩ := HH.out.at_ hiV
      obtain ⟨y, hy⟩ : ∃ y, gd V i = y := ⟨_, rfl⟩
      have hyv : y.2 = .slice a9 m c9 := by
        obtain ⟨a2, c2, h1, h2⟩ := (HH.out.ln (gd_mem hiV)).atG_
        have h3 := HH.out.row.atG.cell i hiV 2 _ rfl
        rw [show 0 + i * hkK.k + 2 = i * 3 + 2 by show 0 + i * 3 + 2 = _; omega, k2] at h3
        rw [← hy]; exact (Option.some.inj h3).symm
      rw [hy] at k0 k1
      have HST : Hid (V.take (i + 1) = V.take i ++ [y]) := Lib.hid (by rw [take_snoc V i default hiV, ← hy]; rfl)
      obtain ⟨f, hf⟩ : ∃ f, y.1.f = f := ⟨_, rfl⟩
      obtain ⟨t, ht⟩ : ∃ t, y.1.t = t := ⟨_, rfl⟩
      rw [hf] at k0
      rw [ht] at k1
      have HYK : Hid (hkK.ok y) := Lib.hid (by show y.2.oneCell' = true; rw [hyv]; rfl)
      have HYC : Hid (#[Value.int .i64 (f : Nat), .int .i64 (t : Nat), .slice a9 m c9] = (hkK.cells y).toArray) := Lib.hid (by show _ = (hkC y).toArray; unfold hkC; rw [hf, ht, hyv])
      have HKC : Hid (∀ W, Below w.heap.size w W → W.cell? ⟨g, i * 3, none⟩ = some (.int .i64 (f : Nat)) ∧ W.cell? ⟨g, i * 3 + 1, none⟩ = some (.int .i64 (t : Nat)) ∧ W.cell? ⟨g, i * 3 + 2, none⟩ = some (.slice a9 m c9)) := Lib.hid (fun W hW => ⟨(hW.cell (World.block_lt_of_cell? _ _ k0)).trans k0, (hW.cell (World.block_lt_of_cell? _ _ k1)).trans k1, (hW.cell (World.block_lt_of_cell? _ _ k2)).trans k2⟩)
      have HTL : Hid ((V.take i).length ≤ 10000) := Lib.hid (by rw [List.length_take]; have := HN.out; omega)
      have HIN : Hid (i < N) := Lib.hid (by omega)
      have hi0 : (0 : Int) ≤ (i : Int) := by omega
      have hin : i < N := by omega
      have hinn : ¬ N ≤ i := by omega
      have W1 : IntKind.i64.wrap ((i : Int) + 1) = (i : Int) + 1 := IntWalk.i64_in _ (by have := HN.out; omega)
      have HOd := Lib.hid (HO.out.below (Below.refl _ _).drew)
      have HBd := Lib.hid HB.out.drew
      clear hiV hy hyv hf ht k0 k1 k2
      go_wp2_with fail
      refine wp_region_held_drew (S := fun W => W.cell? ⟨g, i * 3, none⟩ = some (.int .i64 (f : Nat)) ∧ W.cell? ⟨g, i * 3 + 1, none⟩ = some (.int .i64 (t : Nat)) ∧ W.cell? ⟨g, i * 3 + 2, none⟩ = some (.slice a9 m c9)) (by kernel_rfl) (HKC.out _ HBd.out) (fun hHeld => ?_)
      generalize wr.drew = wd at HOd HBd hHeld ⊢
      refine wpAnyH_take (i := 0) (oi := ⟨some 11, .move (.tmp 3), _, _, _, _⟩) (v := (.slice a4 n4 c4)) rfl (by kernel_rfl) (by kernel_rfl) (by kernel_rfl) (fun _ _ _ h => h) (Or.inl ⟨by rfl, fun W hW => by go_simp⟩) (by assumption) ?_
      simp only [Act.put, List.setIfInBounds_toArray, List.set_cons_zero, List.set_cons_succ]
      refine wpAnyH_take (i := 1) (oi := ⟨some 12, .move (.tmp 0), _, _, _, _⟩) (v := (.slice (some ⟨g, 0, none⟩) N c5)) rfl (by kernel_rfl) (by kernel_rfl) (by kernel_rfl) (fun _ _ _ h => h) (Or.inl ⟨by rfl, fun W hW => by go_simp⟩) (by assumption) ?_
      simp only [Act.put, List.setIfInBounds_toArray, List.set_cons_zero, List.set_cons_succ]
      refine wpAnyH_take (i := 2) (oi := ⟨some 13, .move (.tmp 4), _, _, _, _⟩) (v := (.int .i64 (i : Nat))) rfl (by kernel_rfl) (by kernel_rfl) (by kernel_rfl) (fun _ _ _ h => h) (Or.inl ⟨by rfl, fun W hW => by go_simp⟩) (by assumption) ?_
      simp only [Act.put, List.setIfInBounds_toArray, List.set_cons_zero, List.set_cons_succ]
      refine wpAnyH_take (i := 3) (oi := ⟨some 14, .indexAddr 22 (.tmp 12) (.tmp 13), _, _, _, _⟩) (v := (.pointer (some ⟨g, 0 + i * 3, none⟩))) rfl (by kernel_rfl) (by kernel_rfl) (by kernel_rfl) (fun _ _ _ h => h) (Or.inl ⟨by rfl, fun W hW => by go_simp⟩) (by assumption) ?_
      simp only [Act.put, List.setIfInBounds_toArray, List.set_cons_zero, List.set_cons_succ]
      refine wpAnyH_take (i := 4) (oi := ⟨some 15, .fieldAddr 48 (.tmp 14) 0, _, _, _, _⟩) (v := (.pointer (some ⟨g, 0 + i * 3, none⟩))) rfl (by kernel_rfl) (by kernel_rfl) (by kernel_rfl) (fun _ _ _ h => h) (Or.inl ⟨by rfl, fun W hW => by go_simp⟩) (by assumption) ?_
      simp only [Act.put, List.setIfInBounds_toArray, List.set_cons_zero, List.set_cons_succ]
      refine wpAnyH_take (i := 5) (oi := ⟨some 16, .load 3 (.tmp 15), _, _, _, _⟩) (v := (.int .i64 (f : Nat))) rfl (by kernel_rfl) (by kernel_rfl) (by kernel_rfl) (fun _ _ _ h => h) (Or.inl ⟨by rfl, fun W hW => by have hcell := hW.1; go_simp⟩) (by assumption) ?_
      simp only [Act.put, List.setIfInBounds_toArray, List.set_cons_zero, List.set_cons_succ]
      refine wpAnyH_take (i := 6) (oi := ⟨some 17, .move (.tmp 0), _, _, _, _⟩) (v := (.slice (some ⟨g, 0, none⟩) N c5)) rfl (by kernel_rfl) (by kernel_rfl) (by kernel_rfl) (fun _ _ _ h => h) (Or.inl ⟨by rfl, fun W hW => by go_simp⟩) (by assumption) ?_
      simp only [Act.put, List.setIfInBounds_toArray, List.set_cons_zero, List.set_cons_succ]
      refine wpAnyH_take (i := 7) (oi := ⟨some 18, .move (.tmp 4), _, _, _, _⟩) (v := (.int .i64 (i : Nat))) rfl (by kernel_rfl) (by kernel_rfl) (by kernel_rfl) (fun _ _ _ h => h) (Or.inl ⟨by rfl, fun W hW => by go_simp⟩) (by assumption) ?_
      simp only [Act.put, List.setIfInBounds_toArray, List.set_cons_zero, List.set_cons_succ]
      refine wpAnyH_take (i := 8) (oi := ⟨some 19, .indexAddr 22 (.tmp 17) (.tmp 18), _, _, _, _⟩) (v := (.pointer (some ⟨g, 0 + i * 3, none⟩))) rfl (by kernel_rfl) (by kernel_rfl) (by kernel_rfl) (fun _ _ _ h => h) (Or.inl ⟨by rfl, fun W hW => by go_simp⟩) (by assumption) ?_
      simp only [Act.put, List.setIfInBounds_toArray, List.set_cons_zero, List.set_cons_succ]
      refine wpAnyH_take (i := 9) (oi := ⟨some 20, .fieldAddr 48 (.tmp 19) 1, _, _, _, _⟩) (v := (.pointer (some ⟨g, 0 + i * 3 + 1, none⟩))) rfl (by kernel_rfl) (by kernel_rfl) (by kernel_rfl) (fun _ _ _ h => h) (Or.inl ⟨by rfl, fun W hW => by go_simp⟩) (by assumption) ?_
      simp only [Act.put, List.setIfInBounds_toArray, List.set_cons_zero, List.set_cons_succ]
      refine wpAnyH_take (i := 10) (oi := ⟨some 21, .load 3 (.tmp 20), _, _, _, _⟩) (v := (.int .i64 (t : Nat))) rfl (by kernel_rfl) (by kernel_rfl) (by kernel_rfl) (fun _ _ _ h => h) (Or.inl ⟨by rfl, fun W hW => by have hcell := hW.2.1; go_simp⟩) (by assumption) ?_
      simp only [Act.put, List.setIfInBounds_toArray, List.set_cons_zero, List.set_cons_succ]
      refine wpAnyH_take (i := 11) (oi := ⟨some 22, .move (.tmp 0), _, _, _, _⟩) (v := (.slice (some ⟨g, 0, none⟩) N c5)) rfl (by kernel_rfl) (by kernel_rfl) (by kernel_rfl) (fun _ _ _ h => h) (Or.inl ⟨by rfl, fun W hW => by go_simp⟩) (by assumption) ?_
      simp only [Act.put, List.setIfInBounds_toArray, List.set_cons_zero, List.set_cons_succ]
      refine wpAnyH_take (i := 12) (oi := ⟨some 23, .move (.tmp 4), _, _, _, _⟩) (v := (.int .i64 (i : Nat))) rfl (by kernel_rfl) (by kernel_rfl) (by kernel_rfl) (fun _ _ _ h => h) (Or.inl ⟨by rfl, fun W hW => by go_simp⟩) (by assumption) ?_
      simp only [Act.put, List.setIfInBounds_toArray, List.set_cons_zero, List.set_cons_succ]
      refine wpAnyH_take (i := 13) (oi := ⟨some 24, .indexAddr 22 (.tmp 22) (.tmp 23), _, _, _, _⟩) (v := (.pointer (some ⟨g, 0 + i * 3, none⟩))) rfl (by kernel_rfl) (by kernel_rfl) (by kernel_rfl) (fun _ _ _ h => h) (Or.inl ⟨by rfl, fun W hW => by go_simp⟩) (by assumption) ?_
      simp only [Act.put, List.setIfInBounds_toArray, List.set_cons_zero, List.set_cons_succ]
      refine wpAnyH_take (i := 14) (oi := ⟨some 25, .fieldAddr 48 (.tmp 24) 2, _, _, _, _⟩) (v := (.pointer (some ⟨g, 0 + i * 3 + 2, none⟩))) rfl (by kernel_rfl) (by kernel_rfl) (by kernel_rfl) (fun _ _ _ h => h) (Or.inl ⟨by rfl, fun W hW => by go_simp⟩) (by assumption) ?_
      simp only [Act.put, List.setIfInBounds_toArray, List.set_cons_zero, List.set_cons_succ]
      refine wpAnyH_take (i := 15) (oi := ⟨some 26, .load 32 (.tmp 25), _, _, _, _⟩) (v := (.slice a9 m c9)) rfl (by kernel_rfl) (by kernel_rfl) (by kernel_rfl) (fun _ _ _ h => h) (Or.inl ⟨by rfl, fun W hW => by have hcell := hW.2.2; go_simp⟩) (by assumption) ?_
      simp only [Act.put, List.setIfInBounds_toArray, List.set_cons_zero, List.set_cons_succ]
      refine wpAnyH_take (i := 16) (oi := ⟨some 27, .build 55 #[(0, (.tmp 16)), (1, (.tmp 21)), (2, (.tmp 26))], _, _, _, _⟩) (v := (.agg #[.int .i64 (f : Nat), .int .i64 (t : Nat), .slice a9 m c9])) rfl (by kernel_rfl) (by kernel_rfl) (by kernel_rfl) (fun _ _ _ h => h) (Or.inl ⟨by rfl, fun W hW => by go_simp⟩) (by assumption) ?_
      simp only [Act.put, List.setIfInBounds_toArray, List.set_cons_zero, List.set_cons_succ]
      refine wpAnyH_ready (rs := [17]) (by kernel_rfl) (by simp) ?_
      refine AllReadyH.cons (o := ⟨some 28, .buildSlice 26 1 #[(0, (.tmp 27))], _, _, _, _⟩) rfl (fun K hK => ?_) AllReadyH.nil
      refine wreadyH ?_
      go_simp
      obtain ⟨we, hwe⟩ : ∃ W, wd.alloc (.cells #[.int .i64 (f : Nat), .int .i64 (t : Nat), .slice a9 m c9] RunkT) = W := ⟨_, rfl⟩
      have HSe : Hid (AtG hkK we (some ⟨wd.heap.size, 0, none⟩) 1 1 [y]) := Lib.hid (hwe ▸ oneG wd y HYK.out RunkT _ HYC.out)
      have hbe : Below wd.heap.size wd we := hwe ▸ (Below.refl _ _).alloc (Nat.le_refl _) _
      have HOe := Lib.hid (HOd.out.below hbe)
      have HBe := Lib.hid (HBd.out.trans (hbe.mono HBd.out.size))
      clear hbe
      rw [hwe]
      clear hwe
      refine hK.out _ _ (HKC.out _ HBe.out) (fun hHeld => ?_)
      clear hK K
      refine wpAnyH_ready (rs := [18]) (by kernel_rfl) (by simp) ?_
      refine AllReadyH.cons (o := ⟨some 29, .call { callee := .builtin .append, args := #[(.tmp 11), (.tmp 28)], argTypes := #[26, 26] }, _, _, _, _⟩) rfl (fun K hK => ?_) AllReadyH.nil
      refine wreadyH (wp_appG_told2 hkK Tryd.underlying26 infoRk rfl (.tmp 11) (.tmp 28) rfl w.heap.size (.slice a4 n4 c4) (V.take i) rfl HOe.out _ 1 1 [y] rfl HSe.out (by have := HTL.out; omega) HBe.out.size ((V.take i).length + 1) rfl ?_)
      intro a6 c6 w6 ho hg _
      have HO6 := Lib.hid ho
      have HB6 := Lib.hid (HBe.out.grown hg HBe.out.size (fun k h => (HOe.out.lt k h).1))
      clear ho hg
      refine hK.out _ _ (HKC.out _ HB6.out) (fun hHeld => ?_)
      clear hK K
      refine wpAnyH_take (i := 19) (oi := ⟨some 3, .assign (.tmp 29), _, _, _, _⟩) (v := (.slice a6 ((V.take i).length + 1) c6)) rfl (by kernel_rfl) (by kernel_rfl) (by kernel_rfl) (fun _ _ _ h => h) (Or.inl ⟨by rfl, fun W hW => by go_simp⟩) (by assumption) ?_
      simp only [Act.put, List.setIfInBounds_toArray, List.set_cons_zero, List.set_cons_succ]
      refine wpAnyH_done (by kernel_rfl) ?_ _
      clear hHeld
      go_wp2
      go_roundg (gk - 1)
      case measure => have h1 := HI.out; have h2 := HIN.out; omega
      case rel => exact ⟨i + 1, a6, _, c6, by go_num, rfl, Lib.hid (by have h1 := HI.out; have h2 := HIN.out; omega), Lib.hid (by rw [HST.out]; exact HO6.out), HB6⟩
    · have hin : i = N := by have := HI.out; omega
      have ho := HO.out
      rw [List.take_of_length_le (by rw [HN.out.1, hin]; exact Nat.le_refl _)] at ho
      have HE := Lib.hid ho
      have HNE : Hid (n4 = N) := Lib.hid (by have h1 := ho.len; have h2 := HN.out.1; omega)
      clear hin ho
      go_wp2
      go_ret
      refine ⟨a4, c4, by rw [← HNE.out]; rfl, ⟨by rw [← HNE.out]; exact HE.out.atG, fun x hx => ?_⟩, HB.out⟩
      obtain ⟨a2, c2, h1, h2⟩ := (HH.out.ln hx).atG_
      exact ⟨a2, _, c2, h1, h2.below HB.out⟩
#print axioms of_any
end Go.Proofs.YtfoalaoanpbmeaaDoor
