/-
  Merged: HkRefS, HkFind, HkFilesM, HkFilesN.
-/
import Derived.Test.YtfoalaoanpbmeaaDoorGrp18
import Derived.Test.YtfoalaoanpbmeaaDoorGrp19
import Derived.Test.YtfoalaoanpbmeaaDoorMyRefMoves
namespace Go.Proofs.YtfoalaoanpbmeaaDoor
open Go.RowKit Go.Lib My

theorem refRn_some (s : ByteArray) (L : List Nat) (e0 : Nat) (w : World) (hs : s.size ≤ 20000000000) (h : runesF s.data.toList = (some L, e0)) :
    Calls Tryd.prog 42 #[.string s] w fun e w' => ∃ a n c, e = .returned (.tuple #[.slice a n c, .int .i64 0, .int .i64 0]) ∧ Runs w' a n c (zs L) ∧ Below w.heap.size w w' :=
  (refRunes_any s w hs).mono fun _ _ ⟨a, n, c, h1, h2, h3⟩ => ⟨a, n, c, by rw [h1, runE_some h]; rfl, by rw [runE_some h] at h2; exact h2.isRuns, h3⟩
theorem refRn_none (s : ByteArray) (p : Nat) (w : World) (hs : s.size ≤ 20000000000) (h : runesF s.data.toList = (none, p)) :
    Calls Tryd.prog 42 #[.string s] w fun e w' => ∃ a n c, e = .returned (.tuple #[.slice a n c, .int .i64 p, .int .i64 5]) ∧ Runs w' a n c [] ∧ Below w.heap.size w w' :=
  (refRunes_any s w hs).mono fun _ _ ⟨a, n, c, h1, h2, h3⟩ => ⟨a, n, c, by rw [h1, runE_none h]; rfl, by rw [runE_none h] at h2; exact h2.isRuns, h3⟩
def isTF (l : List UInt8) : Bool := match runesF l with | (some _, _) => true | (none, _) => false
set_option maxRecDepth 100000 in
set_option maxHeartbeats 400000 in
theorem refIsT_any (s : ByteArray) (b : Bool) (w : World) (hs : s.size ≤ 20000000000) (hb : isTF s.data.toList = b) :
    Calls Tryd.prog 21 #[.string s] w fun e w' => e = .returned (.bool b) ∧ Below w.heap.size w w' := by
  subst hb
  rcases runesF_cases s.data.toList with ⟨L, hL⟩ | ⟨p, hL⟩
  · have HC := Lib.hid (refRn_some s L _ w hs hL)
    have HE := Lib.hid (show true = isTF s.data.toList by unfold isTF; rw [hL])
    clear hs hL
    go_enter Tryd.func21, Tryd.ntmps21
    go_wp2_with (go_at_call 42; (with_reducible refine HC.out.mono ?_); rintro e w1 ⟨a, n, c, rfl, hr, hb⟩)
    go_ret
    rw [← HE.out]
    exact ⟨rfl, hb⟩
  · have HC := Lib.hid (refRn_none s p w hs hL)
    have HE := Lib.hid (show false = isTF s.data.toList by unfold isTF; rw [hL])
    clear hs hL
    go_enter Tryd.func21, Tryd.ntmps21
    go_wp2_with (go_at_call 42; (with_reducible refine HC.out.mono ?_); rintro e w1 ⟨a, n, c, rfl, hr, hb⟩)
    go_ret
    rw [← HE.out]
    exact ⟨rfl, hb⟩

theorem isT_txt (l : List UInt8) : isTF l = txtF l := by
  rcases runesF_cases l with ⟨x, hx⟩ | ⟨p, hx⟩
  · have h := chkE_some hx; unfold txtF isTF; rw [h, hx]; rfl
  · have h := chkE_none hx; unfold txtF isTF; rw [h, hx]; rfl
/-- Where the first line ends. -/
theorem line_cut : ∀ (l : List UInt8) (k : Nat), (∀ i, i < k → l.getD i 0 ≠ 10) → k < l.length → l.getD k 0 = 10 → linesF l = l.take (k + 1) :: linesF (l.drop (k + 1))
  | [], _, _, h, _ => by simp at h
  | c :: r, 0, _, _, h => by
    have hc : c = 10 := h
    subst hc
    show (if (10 : UInt8) = 10 then [10] :: linesF r else _) = _
    rw [if_pos rfl]; rfl
  | c :: r, k + 1, h1, h2, h3 => by
    have hc : c ≠ 10 := h1 0 (by omega)
    have ih := line_cut r k (fun i hi => h1 (i + 1) (by omega)) (by simpa using h2) h3
    show (if c = 10 then [10] :: linesF r else match linesF r with | [] => [[c]] | l :: ls => (c :: l) :: ls) = _
    rw [if_neg hc, ih]; rfl
theorem line_one : ∀ (l : List UInt8), l ≠ [] → (∀ i, i < l.length → l.getD i 0 ≠ 10) → linesF l = [l]
  | [], h, _ => absurd rfl h
  | c :: r, _, h1 => by
    have hc : c ≠ 10 := h1 0 (by simp)
    show (if c = 10 then [10] :: linesF r else match linesF r with | [] => [[c]] | l :: ls => (c :: l) :: ls) = _
    rw [if_neg hc]
    cases r with
    | nil => rfl
    | cons d r => rw [line_one (d :: r) (by simp) (fun i hi => h1 (i + 1) (by simpa using hi))]
/-- What Split has at i: lines that are done, where the next begins. -/
def SpS (S : List UInt8) (i fr : Nat) (out : List Ln) : Prop := fr ≤ i ∧ out ++ linesF (S.drop fr) = linesF S ∧ ∀ q, fr ≤ q → q < i → S.getD q 0 ≠ 10
theorem SpS.ten {S : List UInt8} {i fr : Nat} {out : List Ln} (h : SpS S i fr out) (hi : i < S.length) (h10 : S.getD i 0 = 10) : SpS S (i + 1) (i + 1) (out ++ [(S.take (i + 1)).drop fr]) := by
  obtain ⟨h1, h2, h3⟩ := h
  refine ⟨Nat.le_refl _, ?_, fun q q1 q2 => by omega⟩
  have e : ∀ q, (S.drop fr).getD q 0 = S.getD (fr + q) 0 := fun q => by rw [List.getD_eq_getElem?_getD, List.getElem?_drop, List.getD_eq_getElem?_getD]
  have hl := line_cut (S.drop fr) (i - fr) (fun q hq => by rw [e]; exact h3 _ (by omega) (by omega)) (by rw [List.length_drop]; omega) (by rw [e, show fr + (i - fr) = i by omega]; exact h10)
  rw [hl, List.drop_drop, show fr + (i - fr + 1) = i + 1 by omega] at h2
  rw [← h2, List.append_assoc, List.drop_take, show i + 1 - fr = i - fr + 1 by omega]; rfl
theorem SpS.other {S : List UInt8} {i fr : Nat} {out : List Ln} (h : SpS S i fr out) (h10 : S.getD i 0 ≠ 10) : SpS S (i + 1) fr out :=
  ⟨Nat.le_succ_of_le h.1, h.2.1, fun q q1 q2 => by
    rcases Nat.lt_or_ge q i with h4 | h4
    · exact h.2.2 q q1 h4
    · obtain rfl : q = i := by omega
      exact h10⟩
theorem SpS.none_ {S : List UInt8} {fr : Nat} {out : List Ln} (h : SpS S S.length fr out) (hf : ¬ fr < S.length) : out = linesF S := by
  have h2 := h.2.1
  rw [List.drop_eq_nil_of_le (by omega)] at h2
  rw [← h2]; show out = out ++ []; rw [List.append_nil]
theorem SpS.last {S : List UInt8} {fr : Nat} {out : List Ln} (h : SpS S S.length fr out) (hf : fr < S.length) : out ++ [S.drop fr] = linesF S := by
  have e : ∀ q, (S.drop fr).getD q 0 = S.getD (fr + q) 0 := fun q => by rw [List.getD_eq_getElem?_getD, List.getElem?_drop, List.getD_eq_getElem?_getD]
  rw [← h.2.1, line_one (S.drop fr) (fun e0 => by have := congrArg List.length e0; rw [List.length_drop] at this; simp at this; omega) (fun q hq => by rw [e]; exact h.2.2 _ (by omega) (by rw [List.length_drop] at hq; omega))]
theorem SpS.len {S : List UInt8} {i fr : Nat} {out : List Ln} (h : SpS S i fr out) : out.length ≤ S.length := by
  have h1 := congrArg List.length h.2.1
  rw [List.length_append] at h1
  have := lines_len S
  omega
theorem ext_strB (S : List UInt8) (p q : Nat) : (strB S).extract p q = strB ((S.take q).drop p) := by
  have h : ((strB S).extract p q).data.toList = (S.take q).drop p := by rw [b_extH, strB_list, List.drop_take]
  have h2 := strB_of ((strB S).extract p q)
  rw [h] at h2; exact h2.symm
set_option maxRecDepth 100000 in
set_option maxHeartbeats 2000000 in
theorem refSplit_any (S : List UInt8) (w : World) (hs : S.length ≤ 4000000) : Calls Tryd.prog 14 #[.string (strB S)] w (LnsIs (linesF S) w) := by
  have HS := Lib.hid hs
  obtain ⟨m, hm⟩ : ∃ m, (strB S).size = m := ⟨_, rfl⟩
  have HM : Hid (S.length = m) := Lib.hid (by rw [← hm, strB_size])
  have hmI : (m : Int) ≤ 4000000 := by rw [← hm, strB_size]; omega
  clear hs
  go_enter Tryd.func14, Tryd.ntmps14
  go_wp2
  go_loopg [3, 4, 5] m (fun gk v3 v4 v5 W => ∃ (i fr : Nat) (out : List Ln) (a4 : Option Addr) (n4 c4 : Nat), v5 = .int .i64 (i : Nat) ∧ v4 = .int .i64 (fr : Nat) ∧ v3 = .slice a4 n4 c4 ∧ Hid (gk + i = m) ∧ Hid (SpS S i fr out) ∧ Hid (OwnG lnK 9 W w.heap.size (.slice a4 n4 c4) out) ∧ Hid (Below w.heap.size w W))
  case atStart => exact ⟨0, 0, [], none, 0, 0, rfl, rfl, rfl, Lib.hid rfl, Lib.hid ⟨Nat.le_refl _, by rw [List.drop_zero]; rfl, fun q q1 q2 => by omega⟩, Lib.hid OwnG.nil, Lib.hid (Below.refl _ _)⟩
  case round =>
    obtain ⟨i, fr, out, a4, n4, c4, rfl, rfl, rfl, HI, HSP, HO, HB⟩ := hrel
    have HOL : Hid (out.length ≤ 4000000) := Lib.hid (Nat.le_trans HSP.out.len HS.out)
    have hf0 : (0 : Int) ≤ (fr : Int) := by omega
    by_cases hi : (i : Int) < (m : Int)
    · have hks : i < (strB S).size := by rw [hm]; omega
      have hby := byte_at hks
      have HIN : Hid (i < m) := Lib.hid (by omega)
      have hi0 : (0 : Int) ≤ (i : Int) := by omega
      have W1 : IntKind.i64.wrap ((i : Int) + 1) = (i : Int) + 1 := IntWalk.i64_in _ (by omega)
      have f1 : (fr : Int) ≤ (i : Int) + 1 := by have := HSP.out.1; omega
      have f1n : fr ≤ i + 1 := by have := HSP.out.1; omega
      have f2 : (i : Int) + 1 ≤ (m : Int) := by omega
      have f2n : i + 1 ≤ m := by omega
      have hex := ext_strB S fr (i + 1)
      by_cases h10 : S.getD i 0 = 10
      · have hq : ((((strB S)[i]'hks).toNat : Int) == 10) = true := by rw [hby, h10]; rfl
        have HN := Lib.hid (HSP.out.ten (by have := HM.out; omega) h10)
        clear hby h10
        go_wp2_with (at_builtin; go_loud (refine appG lnK Tryd.underlying32 infoStH rfl rfl _ _ rfl w.heap.size _ out rfl (HO.out.alloc _) (some ⟨wr.heap.size, 0, none⟩) 1 1 [(S.take (i + 1)).drop fr] rfl (oneG wr ((S.take (i + 1)).drop fr) trivial 9 _ rfl) (by have h1 := HOL.out; omega) (by have := HB.out.size; simp; omega) (out.length + 1) rfl ?_); intro a6 c6 w6 ho hg; have HO6 := Lib.hid ho; have HB6 := Lib.hid ((HB.out.alloc HB.out.size _).grown hg (by have := HB.out.size; simp; omega) (fun k h => (HO.out.lt k h).1)); clear ho hg)
        go_roundg (gk - 1)
        case measure => have h1 := HI.out; have h2 := HIN.out; omega
        case rel => exact ⟨i + 1, i + 1, _, a6, _, c6, by go_num, by go_num, rfl, Lib.hid (by have h1 := HI.out; have h2 := HIN.out; omega), HN, HO6, HB6⟩
      · have hq : ((((strB S)[i]'hks).toNat : Int) == 10) = false := by rw [hby]; exact ne_ten h10
        have HN := Lib.hid (HSP.out.other h10)
        clear hby h10
        go_wp2
        go_roundg (gk - 1)
        case measure => have h1 := HI.out; have h2 := HIN.out; omega
        case rel => exact ⟨i + 1, fr, out, a4, n4, c4, by go_num, rfl, rfl, Lib.hid (by have h1 := HI.out; have h2 := HIN.out; omega), HN, HO, HB⟩
    · have him : i = S.length := by have h1 := HI.out; have h2 := HM.out; omega
      have hsp := HSP.out
      rw [him] at hsp
      by_cases hf : (fr : Int) < (m : Int)
      · have HE := Lib.hid (hsp.last (by have := HM.out; omega))
        have hex : (strB S).extract fr m = strB (S.drop fr) := by rw [ext_strB, List.take_of_length_le (by have := HM.out; omega)]
        have f1 : (fr : Int) ≤ (m : Int) := by omega
        have f1n : fr ≤ m := by omega
        clear him hsp
        go_wp2_with (at_builtin; go_loud (refine appG lnK Tryd.underlying32 infoStH rfl rfl _ _ rfl w.heap.size _ out rfl (HO.out.alloc _) (some ⟨wr.heap.size, 0, none⟩) 1 1 [S.drop fr] rfl (oneG wr (S.drop fr) trivial 9 _ rfl) (by have h1 := HOL.out; omega) (by have := HB.out.size; simp; omega) (out.length + 1) rfl ?_); intro a6 c6 w6 ho hg; have HO6 := Lib.hid ho; have HB6 := Lib.hid ((HB.out.alloc HB.out.size _).grown hg (by have := HB.out.size; simp; omega) (fun k h => (HO.out.lt k h).1)); clear ho hg)
        go_ret
        exact ⟨a6, _, c6, rfl, by rw [← HE.out]; exact HO6.out.atG, HB6.out⟩
      · have HE := Lib.hid (hsp.none_ (by have := HM.out; omega))
        clear him hsp
        go_wp2
        go_ret
        exact ⟨a4, n4, c4, rfl, by rw [← HE.out]; exact HO.out.atG, HB.out⟩
set_option maxRecDepth 100000 in
set_option maxHeartbeats 1000000 in
theorem refNumber_any (a : Option Addr) (n c : Nat) (L : List Ln) (s : Ln) (w : World) (hL : AtG lnK w a n c L) (hn : n ≤ 100000) :
    Calls Tryd.prog 22 #[.slice a n c, .string (strB s)] w fun e w' => e = .returned (.int .i32 (L.idxOf s : Nat)) ∧ w' = w := by
  have HL := Lib.hid hL
  have HN : Hid (L.length = n) := Lib.hid hL.1
  obtain ⟨z, hz⟩ : ∃ z, L.idxOf s = z := ⟨_, rfl⟩
  have HZ := Lib.hid hz
  rw [hz]
  clear hL hz
  go_enter Tryd.func22, Tryd.ntmps22
  go_wp2
  go_loopg [5] n (fun gk v5 W => ∃ i : Nat, W = w ∧ v5 = .int .i64 (i : Nat) ∧ Hid (gk + i = n) ∧ Hid ((L.drop i).idxOf s + i = z))
  case atStart => exact ⟨0, rfl, rfl, Lib.hid rfl, Lib.hid (by rw [List.drop_zero]; exact HZ.out)⟩
  case round =>
    obtain ⟨i, rfl, rfl, HI, HD⟩ := hrel
    have hiI : (i : Int) ≤ 100000 := by have := HI.out; omega
    have W3 : IntKind.i32.wrap (i : Int) = (i : Int) := by unfold IntKind.wrap; simp [IntKind.signed, IntKind.bits]; omega
    by_cases hi : (i : Int) < (n : Int)
    · obtain ⟨b, off, rfl⟩ := HL.out.some_ (by omega)
      obtain ⟨x, hx⟩ : ∃ x, L.getD i [] = x := ⟨_, rfl⟩
      have hcell := ln_cell HL.out i (by omega)
      rw [hx] at hcell
      have hil : i < L.length := by have := HN.out; omega
      have hd := HD.out
      rw [List.drop_eq_getElem_cons hil, show L[i] = x from by rw [← hx, List.getD_eq_getElem?_getD, List.getElem?_eq_getElem hil]; rfl, List.idxOf_cons] at hd
      have hi0 : (0 : Int) ≤ (i : Int) := by omega
      have HIN : Hid (i < n) := Lib.hid (by omega)
      have W1 : IntKind.i64.wrap ((i : Int) + 1) = (i : Int) + 1 := IntWalk.i64_in _ (by omega)
      have ee := ent_eqH x s
      by_cases hxs : x = s
      · have e1 : ((strB x).toList == (strB s).toList) = true := by rw [ee]; simp [hxs]
        have HE : Hid (i = z) := Lib.hid (by rw [hxs] at hd; simpa using hd)
        clear ee hxs hx hil hd
        go_wp2
        go_ret
        exact ⟨by rw [HE.out]; rfl, rfl⟩
      · have e1 : ((strB x).toList == (strB s).toList) = false := by rw [ee]; simp [hxs]
        have HE : Hid ((L.drop (i + 1)).idxOf s + (i + 1) = z) := Lib.hid (by rw [beq_eq_false_iff_ne.2 hxs] at hd; simp only [cond_false] at hd; omega)
        clear ee hxs hx hil hd
        go_wp2
        go_roundg (gk - 1)
        case measure => have h1 := HI.out; have h2 := HIN.out; omega
        case rel => exact ⟨i + 1, rfl, by go_num, Lib.hid (by have h1 := HI.out; have h2 := HIN.out; omega), HE⟩
    · have hin : i = n := by have := HI.out; omega
      have HE : Hid (n = z) := Lib.hid (by have h1 := HD.out; rw [List.drop_eq_nil_of_le (by rw [HN.out, hin]; exact Nat.le_refl _)] at h1; simp at h1; omega)
      subst hin
      go_wp2
      go_ret
      exact ⟨by rw [HE.out]; rfl, rfl⟩
#print axioms refSplit_any
#print axioms refNumber_any
end Go.Proofs.YtfoalaoanpbmeaaDoor

namespace Go.Proofs.YtfoalaoanpbmeaaDoor
open Go.RowKit Go.Lib

theorem byF_look (l : List FileL) (p : Ln) : lookP (byF l) p = l.find? (fun f => f.1 == p) := by
  have : ∀ (l h : List FileL), lookP (l.foldl seeP h) p = (lookP h p).or (l.find? (fun f => f.1 == p)) := by
    intro l
    induction l with
    | nil => intro h; simp
    | cons x l ih =>
      intro h
      rw [List.foldl_cons, ih]
      unfold seeP
      by_cases hx : x.1 ∈ h.map (·.1)
      · rw [if_pos hx]
        by_cases hp : x.1 = p
        · have h1 : (lookP h p).isSome = true := by rw [lookP_some, ← hp]; exact decide_eq_true hx
          obtain ⟨y, hy⟩ := Option.isSome_iff_exists.1 h1
          rw [hy]; rfl
        · rw [List.find?_cons_of_neg (by simpa using hp)]
      · rw [if_neg hx, lookP_snoc hx]
        by_cases hp : p = x.1
        · rw [if_pos hp, List.find?_cons_of_pos (by simpa using hp.symm)]
          have h1 : lookP h p = none := by
            cases h2 : lookP h p with
            | none => rfl
            | some y => exact absurd (by have h3 : (lookP h p).isSome = true := by rw [h2]; rfl
                                         rw [lookP_some] at h3; rw [← hp]; exact of_decide_eq_true h3) hx
          rw [h1]; rfl
        · rw [if_neg hp, List.find?_cons_of_neg (by simpa using fun e => hp e.symm)]
  exact this l []
theorem two_set {w : World} {g : Nat} {u v x y : Value} (h0 : w.cell? ⟨g, 0, none⟩ = some u) (h1 : w.cell? ⟨g, 1, none⟩ = some v) : ((w.setCell ⟨g, 0, none⟩ x).setCell ⟨g, 1, none⟩ y).cell? ⟨g, 0, none⟩ = some x ∧ ((w.setCell ⟨g, 0, none⟩ x).setCell ⟨g, 1, none⟩ y).cell? ⟨g, 1, none⟩ = some y := by
  have e1 : (w.setCell ⟨g, 0, none⟩ x).cell? ⟨g, 1, none⟩ = some v := by rw [World.cell?_setCell_other (w := w) (a := ⟨g, 0, none⟩) (b := ⟨g, 1, none⟩) (v := _) (h := fun e => by injection e with _ e2 _; cases e2)]; exact h1
  exact ⟨by rw [World.cell?_setCell_other (w := w.setCell ⟨g, 0, none⟩ x) (a := ⟨g, 1, none⟩) (b := ⟨g, 0, none⟩) (v := _) (h := fun e => by injection e with _ e2 _; cases e2)]; exact World.cell?_setCell_same (a := ⟨g, 0, none⟩) (v := _) (h := h0), World.cell?_setCell_same (a := ⟨g, 1, none⟩) (v := _) (h := e1)⟩
theorem results_fl {w : World} {g : Nat} {f : FileL} (h0 : w.cell? ⟨g, 0, none⟩ = some (.string (strB f.1))) (h1 : w.cell? ⟨g, 1, none⟩ = some (.string (strB f.2))) {fn : Func} {p t : Tmp} (hf : fn.results = #[.cell p FileT, .tmp t]) (tmps : Array Value) (hp : tmps.getD p undef = .pointer (some ⟨g, 0, none⟩)) :
    (results fn tmps).run Tryd.prog w = .ok (.tuple #[.agg (flC f), tmps.getD t undef]) w := by
  have hr := run_loadVar_mid (P := Tryd.prog) w g 0 FileT [.string (strB f.1), .string (strB f.2)] _ (fun i v hv => by
    rw [Nat.zero_add]
    match i, hv with
    | 0, hv => cases hv; exact h0
    | 1, hv => cases hv; exact h1) Tryd.underlying38 rfl (by kernel_rfl)
  have hp' : tmps[p]?.getD undef = .pointer (some ⟨g, 0, none⟩) := by simpa using hp
  simp [results, hf, hp', asAddr, hr, flC]
set_option maxRecDepth 100000 in
set_option maxHeartbeats 2000000 in
theorem refFind_any (a : Option Addr) (n c : Nat) (L : List FileL) (p : Ln) (w : World) (hL : FilesAt w a n c L) (hn : n ≤ 100000) :
    Calls Tryd.prog 32 #[.slice a n c, .string (strB p)] w fun e w' => e = .returned (.tuple #[.agg (flC ((lookP (byF L) p).getD ([], []))), .bool (lookP (byF L) p).isSome]) ∧ Below w.heap.size w w' := by
  have HL := Lib.hid hL
  have HN : Hid (L.length = n ∧ n ≤ 100000) := Lib.hid ⟨hL.1, hn⟩
  obtain ⟨o, ho⟩ : ∃ o, lookP (byF L) p = o := ⟨_, rfl⟩
  have HO : Hid ((L.drop 0).find? (fun f => f.1 == p) = o) := Lib.hid (by rw [List.drop_zero, ← byF_look]; exact ho)
  rw [ho]
  clear hL hn ho
  have HB0 : Hid (∀ o, Below w.heap.size w (w.alloc o)) := Lib.hid (fun o => (Below.refl _ _).alloc (Nat.le_refl _) o)
  go_enter Tryd.func32, Tryd.ntmps32
  obtain ⟨w1, hw1⟩ : ∃ W, w.alloc (.cells #[.string ⟨#[]⟩, .string ⟨#[]⟩] FileT) = W := ⟨_, rfl⟩
  have e1 : w1.heap[w.heap.size]? = some (.cells #[.string ⟨#[]⟩, .string ⟨#[]⟩] FileT (0, 0)) := hw1 ▸ heap_alloc_new w _
  have HB1 : Hid (Below w.heap.size w w1) := Lib.hid (hw1 ▸ (Below.refl _ _).alloc (Nat.le_refl _) _)
  have z0 : w1.cell? ⟨w.heap.size, 0, none⟩ = some (.string ⟨#[]⟩) := by rw [cell_of_row _ _ _ _ _ _ e1]; rfl
  have z1 : w1.cell? ⟨w.heap.size, 1, none⟩ = some (.string ⟨#[]⟩) := by rw [cell_of_row _ _ _ _ _ _ e1]; rfl
  have y0 : w1.frozen? ⟨w.heap.size, 0, none⟩ = false := frozen_of_row w1 _ 0 _ _ e1
  have y1 : w1.frozen? ⟨w.heap.size, 1, none⟩ = false := frozen_of_row w1 _ 1 _ _ e1
  have HZ : Hid (w1.cell? ⟨w.heap.size, 0, none⟩ = some (.string (strB (([], []) : FileL).1)) ∧ w1.cell? ⟨w.heap.size, 1, none⟩ = some (.string (strB (([], []) : FileL).2))) := Lib.hid ⟨z0, z1⟩
  clear e1
  go_wp2
  go_loopg [6] n (fun gk v6 W => ∃ i : Nat, W = w1 ∧ v6 = .int .i64 (i : Nat) ∧ Hid (gk + i = n) ∧ Hid ((L.drop i).find? (fun f => f.1 == p) = o))
  case atStart => exact ⟨0, rfl, rfl, Lib.hid rfl, HO⟩
  case round =>
    clear HO
    obtain ⟨i, rfl, rfl, HI, HD⟩ := hrel
    have hn := HN.out
    have hi0 : (0 : Int) ≤ (i : Int) := by omega
    by_cases hi : (i : Int) < (n : Int)
    · have hL1 := HL.out.below HB1.out
      obtain ⟨b, off, rfl⟩ := HL.out.some_ (by omega)
      obtain ⟨⟨p1, q1⟩, hf⟩ : ∃ f, L.getD i default = f := ⟨_, rfl⟩
      obtain ⟨k0, k1⟩ := hL1.cell i (by omega)
      rw [hf] at k0 k1
      have hil : i < L.length := by omega
      have hd := HD.out
      rw [List.drop_eq_getElem_cons hil, show L[i] = (p1, q1) from by rw [← hf, List.getD_eq_getElem?_getD, List.getElem?_eq_getElem hil]; rfl] at hd
      have HIN : Hid (i < n) := Lib.hid (by omega)
      have W1 : IntKind.i64.wrap ((i : Int) + 1) = (i : Int) + 1 := IntWalk.i64_in _ (by omega)
      have ee := ent_eqH p1 p
      by_cases hp : p1 = p
      · have e2 : ((strB p1).toList == (strB p).toList) = true := by rw [ee]; simp [hp]
        have HE : Hid (some (p1, q1) = o) := Lib.hid (by rw [← hd, List.find?_cons_of_pos (by simpa using hp)])
        clear ee hp hf hil hd hL1
        go_wp2
        obtain ⟨q0, q1'⟩ := two_set (x := .string (strB p1)) (y := .string (strB q1)) HZ.out.1 HZ.out.2
        refine bodyPost_ret (results_fl (g := w.heap.size) (f := (p1, q1)) q0 q1' rfl _ rfl) rfl ?_
        refine ⟨by rw [← HE.out]; rfl, (HB1.out.setCell (p := ⟨w.heap.size, 0, none⟩) (Nat.le_refl _) _).setCell (p := ⟨w.heap.size, 1, none⟩) (Nat.le_refl _) _⟩
      · have e2 : ((strB p1).toList == (strB p).toList) = false := by rw [ee]; simp [hp]
        have HE : Hid ((L.drop (i + 1)).find? (fun f => f.1 == p) = o) := Lib.hid (by rw [← hd, List.find?_cons_of_neg (by simpa using hp)])
        clear ee hp hf hil hd hL1
        go_wp2
        go_roundg (gk - 1)
        case measure => have h1 := HI.out; have h2 := HIN.out; omega
        case rel => exact ⟨i + 1, rfl, by go_num, Lib.hid (by have h1 := HI.out; have h2 := HIN.out; omega), HE⟩
    · have hin : i = n := by have := HI.out; omega
      have HE : Hid (none = o) := Lib.hid (by have h1 := HD.out; rw [List.drop_eq_nil_of_le (by omega)] at h1; exact h1)
      clear hin hn
      go_wp2
      obtain ⟨q0, q1'⟩ := two_set (x := .string (strB [])) (y := .string (strB [])) HZ.out.1 HZ.out.2
      refine bodyPost_ret (results_fl (g := w.heap.size) (f := ([], [])) q0 q1' rfl _ rfl) rfl ?_
      refine ⟨by rw [← HE.out]; rfl, (HB1.out.setCell (p := ⟨w.heap.size, 0, none⟩) (Nat.le_refl _) _).setCell (p := ⟨w.heap.size, 1, none⟩) (Nat.le_refl _) _⟩
#print axioms refFind_any
end Go.Proofs.YtfoalaoanpbmeaaDoor

namespace Go.Proofs.YtfoalaoanpbmeaaDoor
open Go.RowKit Go.Lib

theorem lt_of_ne {x y : Ln} (h : x ≤ y) (hn : x ≠ y) : x < y := by
  rcases Classical.em (x < y) with h1 | h1
  · exact h1
  · exact absurd (List.le_antisymm h (by simpa using h1)) hn
theorem cmp_inv (L : List Ln) (hs : L.Pairwise (fun a b => a ≤ b)) : ∀ m, m ≤ L.length → (compactUpTo L.toArray m).Pairwise (fun a b => a < b) ∧ (∀ x ∈ L.take m, x ∈ compactUpTo L.toArray m) ∧ (∀ x ∈ compactUpTo L.toArray m, x ≤ L.getD (m - 1) []) := by
  intro m
  induction m with
  | zero => intro _; exact ⟨by simp [compactUpTo], fun x hx => by simp at hx, fun x hx => by simp [compactUpTo] at hx⟩
  | succ m ih =>
    intro hm
    obtain ⟨h1, h2, h3⟩ := ih (by omega)
    have hml : m < L.length := by omega
    have ez : L.toArray[m]! = L.getD m [] := by simp [hml]
    rw [compactUpTo_succ, Nat.add_sub_cancel, take_snoc L m [] hml]
    rcases Nat.eq_zero_or_pos m with h0 | h0
    · subst h0
      have hk : keeps L.toArray 0 = true := by simp [keeps]
      rw [hk, if_pos rfl, ez]
      have e0 : compactUpTo L.toArray 0 = [] := by simp [compactUpTo]
      rw [e0]
      exact ⟨by simp, fun x hx => by simpa using hx, fun x hx => by have : x = L.getD 0 [] := by simpa using hx
                                                                    rw [this]; exact List.le_refl _⟩
    · have ep : L.toArray[m - 1]! = L.getD (m - 1) [] := by simp [show m - 1 < L.length by omega]
      have hle : L.getD (m - 1) [] ≤ L.getD m [] := by
        have h4 := List.pairwise_iff_getElem.1 hs (m - 1) m (by omega) hml (by omega)
        rw [List.getD_eq_getElem?_getD, List.getD_eq_getElem?_getD, List.getElem?_eq_getElem (by omega), List.getElem?_eq_getElem hml]
        exact h4
      by_cases he : L.getD m [] = L.getD (m - 1) []
      · rw [keeps_neg h0 (by rw [ez, ep]; exact he), if_neg (by decide), List.append_nil]
        refine ⟨h1, fun x hx => ?_, fun x hx => by rw [he]; exact h3 x hx⟩
        rcases List.mem_append.1 hx with hx | hx
        · exact h2 x hx
        · rw [List.mem_singleton.1 hx, he]
          refine h2 _ ?_
          rw [List.mem_iff_getElem?]
          exact ⟨m - 1, by rw [List.getElem?_take_of_lt (by omega), List.getElem?_eq_getElem (by omega), List.getD_eq_getElem?_getD, List.getElem?_eq_getElem (by omega)]; rfl⟩
      · rw [keeps_pos (by rw [ez, ep]; exact he), if_pos rfl, ez]
        have hlt := lt_of_ne hle (fun e => he e.symm)
        refine ⟨List.pairwise_append.2 ⟨h1, by simp, fun a ha b hb => ?_⟩, fun x hx => ?_, fun x hx => ?_⟩
        · rw [List.mem_singleton.1 hb]; exact List.lt_of_le_of_lt (h3 a ha) hlt
        · rcases List.mem_append.1 hx with hx | hx
          · exact List.mem_append_left _ (h2 x hx)
          · exact List.mem_append_right _ hx
        · rcases List.mem_append.1 hx with hx | hx
          · exact List.le_trans (h3 x hx) hle
          · rw [List.mem_singleton.1 hx]; exact List.le_refl _
theorem srt_up (L : List Ln) : (srtF L).Pairwise (fun a b => a ≤ b) := by
  have tr : ∀ a b c : List UInt8, leB a b = true → leB b c = true → leB a c = true := fun a b c h1 h2 => by simp only [leB, decide_eq_true_eq] at *; exact List.le_trans h1 h2
  have tl : ∀ a b : List UInt8, (leB a b || leB b a) = true := fun a b => by simp only [leB, Bool.or_eq_true, decide_eq_true_eq]; exact List.le_total a b
  exact (List.pairwise_mergeSort tr tl L).imp (fun h => by simpa [leB] using h)
theorem paths_up (L L' : List FileL) : (pathsF L L').Pairwise (fun a b => a < b) := (cmp_inv _ (srt_up _) _ (Nat.le_refl _)).1
theorem paths_mem {L L' : List FileL} {p : Ln} : p ∈ pathsF L L' ↔ p ∈ (byF L).map (·.1) ∨ p ∈ (byF L').map (·.1) := by
  constructor
  · intro h
    exact List.mem_append.1 (srt_mem.1 (compact_mem _ p h))
  · intro h
    have h1 := srt_mem.2 (List.mem_append.2 h)
    have h2 := (cmp_inv _ (srt_up ((byF L).map (·.1) ++ (byF L').map (·.1))) _ (Nat.le_refl _)).2.1 p (by rw [List.take_length]; exact h1)
    exact h2
theorem byF_keys (L : List FileL) (p : Ln) : p ∈ (byF L).map (·.1) ↔ p ∈ L.map (·.1) := by
  have h1 : (lookP (byF L) p).isSome = (L.find? (fun f => f.1 == p)).isSome := by rw [byF_look]
  rw [lookP_some] at h1
  constructor
  · intro h
    rw [decide_eq_true h] at h1
    obtain ⟨x, hx⟩ := Option.isSome_iff_exists.1 h1.symm
    have h2 := List.find?_some hx
    exact List.mem_map.2 ⟨x, List.mem_of_find?_eq_some hx, by simpa using h2⟩
  · intro h
    obtain ⟨x, hx, rfl⟩ := List.mem_map.1 h
    have h2 : (L.find? (fun f => f.1 == x.1)).isSome = true := List.find?_isSome.2 ⟨x, hx, by simp⟩
    rw [h2] at h1
    exact of_decide_eq_true h1
#print axioms paths_up
#print axioms paths_mem
#print axioms byF_keys
end Go.Proofs.YtfoalaoanpbmeaaDoor

namespace Go.Proofs.YtfoalaoanpbmeaaDoor
open Go.RowKit Go.Lib

/-- May it be told yet? -/
def newP (last : Option Ln) (p : Ln) : Bool := match last with
  | none => true
  | some l => decide (l < p)
def lessP (b : Option Ln) (p : Ln) : Bool := match b with
  | none => true
  | some q => decide (p < q)
def bestS (last : Option Ln) (b : Option Ln) (p : Ln) : Option Ln := if newP last p && lessP b p then some p else b
def bestP (last : Option Ln) (ps : List Ln) : Option Ln := ps.foldl (bestS last) none
theorem best_snoc (last : Option Ln) (ps : List Ln) (p : Ln) : bestP last (ps ++ [p]) = bestS last (bestP last ps) p := by unfold bestP; rw [List.foldl_append]; rfl
/-- What the least one is. -/
def IsBest (last : Option Ln) (ps : List Ln) (b : Option Ln) : Prop := match b with
  | none => ∀ q ∈ ps, newP last q = false
  | some p => p ∈ ps ∧ newP last p = true ∧ ∀ q ∈ ps, newP last q = true → p ≤ q
theorem best_is (last : Option Ln) (ps : List Ln) : ∀ m, m ≤ ps.length → IsBest last (ps.take m) (bestP last (ps.take m)) := by
  intro m
  induction m with
  | zero => intro _; intro q hq; simp at hq
  | succ m ih =>
    intro hm
    have h := ih (by omega)
    rw [take_snoc ps m [] (by omega), best_snoc]
    obtain ⟨p, hp⟩ : ∃ p, ps.getD m [] = p := ⟨_, rfl⟩
    rw [hp]
    obtain ⟨b, hb⟩ : ∃ b, bestP last (ps.take m) = b := ⟨_, rfl⟩
    rw [hb] at h ⊢
    unfold bestS
    cases hn : newP last p with
    | false =>
      rw [Bool.false_and, if_neg (by decide)]
      cases b with
      | none =>
        exact fun q hq => by
          rcases List.mem_append.1 hq with hq | hq
          · exact h q hq
          · rw [List.mem_singleton.1 hq]; exact hn
      | some x =>
        exact ⟨List.mem_append_left _ h.1, h.2.1, fun q hq h1 => by
          rcases List.mem_append.1 hq with hq | hq
          · exact h.2.2 q hq h1
          · rw [List.mem_singleton.1 hq, hn] at h1; cases h1⟩
    | true =>
      rw [Bool.true_and]
      cases b with
      | none =>
        show IsBest last _ (some p)
        exact ⟨by simp, hn, fun q hq h1 => by
          rcases List.mem_append.1 hq with hq | hq
          · rw [h q hq] at h1; cases h1
          · rw [List.mem_singleton.1 hq]; exact List.le_refl _⟩
      | some x =>
        by_cases hl : p < x
        · have e : lessP (some x) p = true := decide_eq_true hl
          rw [e, if_pos rfl]
          exact ⟨by simp, hn, fun q hq h1 => by
            rcases List.mem_append.1 hq with hq | hq
            · exact List.le_trans (List.le_of_lt hl) (h.2.2 q hq h1)
            · rw [List.mem_singleton.1 hq]; exact List.le_refl _⟩
        · have e : lessP (some x) p = false := decide_eq_false hl
          rw [e, if_neg (by decide)]
          exact ⟨List.mem_append_left _ h.1, h.2.1, fun q hq h1 => by
            rcases List.mem_append.1 hq with hq | hq
            · exact h.2.2 q hq h1
            · rw [List.mem_singleton.1 hq]; simpa using hl⟩
theorem up_last {P : List Ln} (hP : P.Pairwise (fun a b => a < b)) {k i : Nat} (hk : k < i) (hi : i < P.length) : P.getD k [] < P.getD i [] := by
  have h := List.pairwise_iff_getElem.1 hP k i (by omega) hi hk
  rw [List.getD_eq_getElem?_getD, List.getD_eq_getElem?_getD, List.getElem?_eq_getElem (by omega), List.getElem?_eq_getElem hi]; exact h
def lastP (P : List Ln) (k : Nat) : Option Ln := if k = 0 then none else some (P.getD (k - 1) [])
/-- Behind k paths that are told the next is the least of the rest. -/
theorem best_next {P ps : List Ln} (hP : P.Pairwise (fun a b => a < b)) (hm : ∀ p, p ∈ P ↔ p ∈ ps) (k : Nat) (hk : k ≤ P.length) : bestP (lastP P k) ps = P[k]? := by
  have h := best_is (lastP P k) ps ps.length (Nat.le_refl _)
  rw [List.take_length] at h
  have hnew : ∀ i, i < P.length → (newP (lastP P k) (P.getD i []) = true ↔ k ≤ i) := fun i hi => by
    unfold lastP
    rcases Nat.eq_zero_or_pos k with h0 | h0
    · subst h0; simp [newP]
    · rw [if_neg (by omega)]
      show decide (P.getD (k - 1) [] < P.getD i []) = true ↔ _
      rw [decide_eq_true_iff]
      constructor
      · intro hlt
        rcases Nat.lt_or_ge i k with h1 | h1
        · rcases Nat.lt_or_ge i (k - 1) with h2 | h2
          · exact absurd (List.lt_trans hlt (up_last hP h2 (by omega))) (List.lt_irrefl _)
          · obtain rfl : i = k - 1 := by omega
            exact absurd hlt (List.lt_irrefl _)
        · exact h1
      · intro h1; exact up_last hP (by omega) hi
  have hget : ∀ i, i < P.length → P.getD i [] ∈ ps := fun i hi => (hm _).1 (getD_mem hi)
  cases hb : bestP (lastP P k) ps with
  | none =>
    rw [hb] at h
    rcases Nat.lt_or_ge k P.length with h1 | h1
    · have h2 := h _ (hget k h1)
      rw [(hnew k h1).2 (Nat.le_refl _)] at h2; cases h2
    · rw [List.getElem?_eq_none h1]
  | some p =>
    rw [hb] at h
    obtain ⟨g1, g2, g3⟩ := h
    obtain ⟨i, hi, he⟩ := List.getElem_of_mem ((hm p).2 g1)
    have he' : P.getD i [] = p := by rw [List.getD_eq_getElem?_getD, List.getElem?_eq_getElem hi]; exact he
    rw [← he'] at g2
    have hki := (hnew i hi).1 g2
    have h5 := g3 _ (hget k (by omega)) ((hnew k (by omega)).2 (Nat.le_refl _))
    rcases Nat.lt_or_ge k i with h6 | h6
    · have h7 := up_last hP h6 hi
      rw [he'] at h7
      exact absurd (List.lt_of_le_of_lt h5 h7) (List.lt_irrefl _)
    · obtain rfl : i = k := by omega
      rw [List.getElem?_eq_getElem hi, he]
#print axioms best_next
end Go.Proofs.YtfoalaoanpbmeaaDoor
