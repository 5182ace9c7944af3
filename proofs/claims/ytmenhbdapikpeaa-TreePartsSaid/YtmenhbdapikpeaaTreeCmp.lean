/-
  Merged: TreeTextW, TreeWay, TreeCmp, TreeAwake.
-/
import Derived.Test.YtmenhbdapikpeaaTreeOrder
import Derived.Test.YtmenhbdapikpeaaTreeShelf
import Derived.WalkMore
import Derived.Test.YtmenhbdapikpeaaInts
namespace Go.Proofs.Ytmenhbdapikpeaa
open Go.RowKit

theorem live_len (L : List NodeV) (l : List Nat) : (liveT L l).length ≤ l.length := by
  unfold liveT
  induction l with
  | nil => simp
  | cons x t ih =>
    rw [List.flatMap_cons, List.length_append, List.length_cons]
    have : (if (nd L x).d then ([] : List Int) else [(nd L x).r]).length ≤ 1 := by split <;> simp
    omega
theorem live_text {L : List NodeV} {l : List Nat} (h : ∀ i ∈ l, Lib.validRune (nd L i).r = true) : txtE (liveT L l) = (textT L l, 0) := by
  unfold txtE textT txt
  rw [if_pos]
  rw [List.all_eq_true]
  intro z hz
  unfold liveT at hz
  obtain ⟨i, hi, hz2⟩ := List.mem_flatMap.1 hz
  split at hz2
  · cases hz2
  · simp at hz2
    rw [hz2]; exact h i hi

set_option maxRecDepth 100000 in
set_option maxHeartbeats 400000 in
theorem treeText_no (a : Option Addr) (n c : Nat) (L : List NodeV) (w : World) (h : NodesAt w a n c L) (hn : n ≤ 1000) (hR : ¬ RightT L) :
    Calls Try.prog 13 #[.slice a n c] w fun e w' => e = .returned (.string (strB [])) ∧ Below w.heap.size w w' := by
  have OR := Lib.hid (order_no a n c L w h hn hR)
  have TX : Hid (∀ W, Calls Try.prog 27 #[.slice none 0 0] W fun e w2 => e = .returned (.tuple #[.string (strB []), .int .i64 0]) ∧ Below W.heap.size W w2) := Lib.hid (fun W => by
    have h := text_any none 0 0 [] W (Runs.nil W) (by omega)
    rw [show txtE [] = ([], 0) from rfl] at h
    exact h)
  clear h hn hR
  go_enter Try.func13, Try.ntmps13
  go_wp2_with (go_at_call 12; (with_reducible refine OR.out.mono ?_); rintro e w1 ⟨rfl, hb1⟩; have HB1 := Lib.hid hb1; clear hb1)
  go_loopg [3, 11] 0 (fun g v3 v11 W => v3 = .slice none 0 0 ∧ v11 = .int .i64 0 ∧ w1 = W)
  case atStart => exact ⟨rfl, rfl, rfl⟩
  case round =>
    obtain ⟨rfl, rfl, rfl⟩ := hrel
    go_wp2_with (go_at_call 27; (with_reducible refine (TX.out _).mono ?_); rintro e w2 ⟨rfl, hb2⟩; have HB2 := Lib.hid hb2; clear hb2)
    go_ret
    exact ⟨rfl, HB1.out.trans (HB2.out.mono HB1.out.size)⟩

set_option maxRecDepth 100000 in
set_option maxHeartbeats 4000000 in
theorem treeText_any (a : Option Addr) (n c : Nat) (L : List NodeV) (w : World) (h : NodesAt w a n c L) (hn : n ≤ 1000) (hR : RightT L) (l : List Nat) (hl : OrdT L l) :
    Calls Try.prog 13 #[.slice a n c] w fun e w' => e = .returned (.string (strB (textT L l))) ∧ Below w.heap.size w w' := by
  have HL := Lib.hid h.1
  have HN := Lib.hid h
  have HR := Lib.hid hR
  have HO := Lib.hid hl
  have hnI : (n : Int) ≤ 1000 := by omega
  have hn0 : (0 : Int) ≤ (n : Int) := by omega
  have HM := Lib.hid hn
  have OR : Hid (Calls Try.prog 12 #[.slice a n c] w fun e w' => ∃ a1 c1, e = .returned (.slice a1 n c1) ∧ Own1 N 3 w' w.heap.size (.slice a1 n c1) l ∧ Below w.heap.size w w') := Lib.hid ((order_any a n c L w h hn hR).mono (by
    rintro e w' ⟨a1, c1, l', rfl, h1, h2, h3⟩
    rw [ordT_unique hl h1]
    rw [h.1] at h2 ⊢
    exact ⟨a1, c1, rfl, h2, h3⟩))
  have HLT := Lib.hid (live_text (L := L) (l := l) (fun i hi => hR.1 i ((hl.2 i).1 hi)))
  clear h hn hR hl
  go_enter Try.func13, Try.ntmps13
  go_wp2_with (go_at_call 12; (with_reducible refine OR.out.mono ?_); rintro e w1 ⟨a1, c1, rfl, ho1, hb1⟩; have HO1 := Lib.hid ho1; have HB1 := Lib.hid hb1; clear ho1 hb1)
  have HLL := Lib.hid (show l.length = n from HO1.out.len)
  go_loopg [3, 11] n (fun g v3 v11 W => ∃ j : Nat, Below w1.heap.size w1 W ∧ v11 = .int .i64 j ∧ g + j = n ∧ ∃ a' n' c', v3 = .slice a' n' c' ∧ Hid (OwnR W w1.heap.size (.slice a' n' c') (liveT L (l.take j))))
  case atStart => exact ⟨0, Below.refl _ _, rfl, rfl, none, 0, 0, rfl, Lib.hid (OwnR.nil _ _)⟩
  case round =>
    obtain ⟨j, hbw, rfl, hg, a', n', c', rfl, HT⟩ := hrel
    have HG := Lib.hid hg
    have HB := Lib.hid hbw
    have hj0 : (0 : Int) ≤ (j : Int) := by omega
    have hjI : (j : Int) ≤ (n : Int) := by omega
    by_cases hj : (j : Int) < (n : Int)
    · have hjn : j < n := by omega
      have HJ := Lib.hid hjn
      have HJL := Lib.hid (show j < l.length by rw [HLL.out]; exact hjn)
      obtain ⟨g, rfl, _⟩ := HO1.out.row (by omega)
      have cx := (HO1.out.at1.below hbw).cell j hjn
      rw [Nat.zero_add] at cx
      obtain ⟨x, hx⟩ : ∃ x, x = l.getD j 0 := ⟨_, rfl⟩
      have hxL : x < L.length := (HO.out.2 x).1 (by rw [hx]; exact getD_mem HJL.out)
      have hxn : x < n := by rw [← HL.out]; exact hxL
      rw [← hx] at cx
      unfold N at cx
      have hx0 : (0 : Int) ≤ (x : Int) := by omega
      have hxI : (x : Int) < (n : Int) := by omega
      obtain ⟨b, o, rfl⟩ := HN.out.some_ (by omega)
      have HNr := Lib.hid ((HN.out.below HB1.out).below (hbw.mono (Nat.le_refl _)))
      have cd := HNr.out.dead x hxn
      have cr := HNr.out.run x hxn
      have HLV := Lib.hid (live_next L (l := l) (j := j) HJL.out)
      rw [← hx] at HLV
      have HLE := Lib.hid (live_len L (l.take j))
      obtain ⟨d, hd⟩ : ∃ d, d = (nd L x).d := ⟨_, rfl⟩
      obtain ⟨r, hr⟩ : ∃ r, r = (nd L x).r := ⟨_, rfl⟩
      rw [← hd] at cd HLV
      rw [← hr] at cr HLV
      clear hg hx hxL hd hr
      cases d
      · have HSZ := Lib.hid HB.out.size
        go_wp2_with (at_builtin; go_must (refine app_runs rfl (.tmp 21) (.tmp 27) rfl w1.heap.size _ _ rfl (HT.out.alloc _) _ 1 1 [r] rfl (runs_one _ r) (by have h1 := HLE.out; have h4 := HLL.out; have h5 := HM.out; rw [List.length_take] at h1; omega) (by have := HSZ.out; simp; omega) ?_); intro v3 w3 ho3 hg3)
        go_roundg (n - (j + 1))
        case measure => have := HG.out; have := HJ.out; omega
        case rel =>
          obtain ⟨a3, n3, c3, rfl, _⟩ := ho3.runs
          refine ⟨j + 1, ?_, by go_num, by have := HJ.out; omega, a3, n3, c3, rfl, Lib.hid (by rw [HLV.out, if_neg (by simp)]; exact ho3)⟩
          exact (HB.out.alloc HB.out.size _).grown hg3 (by have := HSZ.out; simp; omega) (fun k hk => HT.out.grown k hk)
      · go_wp2
        go_roundg (n - (j + 1))
        case measure => have := HG.out; have := HJ.out; omega
        case rel => exact ⟨j + 1, HB.out, by go_num, by have := HJ.out; omega, a', n', c', rfl, Lib.hid (by rw [HLV.out]; simpa using HT.out)⟩
    · have hjn : j = n := by omega
      subst hjn
      have HE := Lib.hid (show l.take j = l from List.take_of_length_le (by rw [HLL.out]; exact Nat.le_refl _))
      have TX : Hid (Calls Try.prog 27 #[.slice a' n' c'] wr fun e w2 => e = .returned (.tuple #[.string (strB (textT L l)), .int .i64 0]) ∧ Below wr.heap.size wr w2) := Lib.hid (by
        have h1 := HT.out
        rw [HE.out] at h1
        have h2 := h1.len
        have h3 := live_len L l
        have h := text_any a' n' c' _ wr h1.isRuns (by have := HLL.out; have := HM.out; omega)
        rw [HLT.out] at h
        exact h)
      clear hg
      go_wp2_with (go_at_call 27; (with_reducible refine TX.out.mono ?_); rintro e w2 ⟨rfl, hb2⟩; have HB2 := Lib.hid hb2; clear hb2)
      go_ret
      exact ⟨rfl, (HB1.out.trans (HB.out.mono HB1.out.size)).trans (HB2.out.mono (Nat.le_trans HB1.out.size HB.out.size))⟩
#print axioms treeText_any
end Go.Proofs.Ytmenhbdapikpeaa

namespace Go.Proofs.Ytmenhbdapikpeaa
open Go.RowKit

theorem own_cells {base g n c : Nat} : ∀ (vs : List Nat) (o : Nat) (w : World) (L : List Nat), Own1 N 3 w base (.slice (pA g) n c) L → o + vs.length ≤ n →
    Own1 N 3 (w.setCells g o (vs.map N)) base (.slice (pA g) n c) (L.take o ++ vs ++ L.drop (o + vs.length))
  | [], o, w, L, h, _ => by
    rw [List.map_nil]
    show Own1 N 3 w base _ _
    simpa using h
  | x :: r, o, w, L, h, ho => by
    have hl := h.len
    have h1 := h.store hl o x
    have h2 := own_cells r (o + 1) (w.setCell ⟨g, o, none⟩ (N x)) (L.set o x) h1 (by simp at ho; omega)
    have e : (L.set o x).take (o + 1) ++ r ++ (L.set o x).drop (o + 1 + r.length) = L.take o ++ (x :: r) ++ L.drop (o + (x :: r).length) := by
      have hol : o < L.length := by simp at ho; omega
      have e1 : (L.set o x).take (o + 1) = L.take o ++ [x] := by
        rw [List.take_succ_eq_append_getElem (by simpa using hol), List.take_set_of_le (by omega)]
        simp
      have e2 : (L.set o x).drop (o + 1 + r.length) = L.drop (o + (x :: r).length) := by
        rw [List.drop_set_of_lt (by omega)]
        congr 1
        simp; omega
      rw [e1, e2]
      simp
    rw [e] at h2
    exact h2
theorem reverse_any {w : World} {base g n c : Nat} {l : List Nat} (h : Own1 N 3 w base (.slice (pA g) n c) l) (hn : n ≤ 1000000) :
    Calls Try.prog 39 #[.slice (pA g) n c] w fun e w' => e = .returned (.tuple #[]) ∧ Own1 N 3 w' base (.slice (pA g) n c) l.reverse ∧ w.grownBy w' (some g) := by
  have hl := h.len
  have hz : (l.map fun x => ((x : Nat) : Int)).length = n := by simpa using hl
  refine (Try.slices_Reverse_int_cells g 0 n c (l.map fun x => ((x : Nat) : Int)) w (by omega) (by omega) (fun j hj => ?_) (fun j hj => ?_)).mono ?_
  · have := h.at1.cell j (by omega)
    rw [this]
    unfold N
    have hjl : j < l.length := by omega
    simp [hjl]
  · obtain ⟨g', e, _, _, _, hf⟩ := h.row (by omega)
    simp only [pA, Option.some.injEq, Addr.mk.injEq, and_true] at e
    subst e
    rw [Nat.zero_add]
    exact hf j
  · rintro e w' ⟨rfl, q, rfl⟩
    have e1 : ((l.map fun x => ((x : Nat) : Int)).take n).reverse.map (Value.int .i64) = l.reverse.map N := by
      rw [List.take_of_length_le (by omega), ← List.map_reverse, List.map_map]
      rfl
    rw [e1]
    have h2 := own_cells l.reverse 0 (w.drewN q) l (h.drewG q) (by simp; omega)
    have e2 : l.take 0 ++ l.reverse ++ l.drop (0 + l.reverse.length) = l.reverse := by simp
    rw [e2] at h2
    refine ⟨rfl, h2, ?_⟩
    have hg := grown_setCells g (l.reverse.map N) 0 (w.drewN q)
    exact ⟨hg.os, hg.tape, hg.output, hg.size, hg.block⟩

set_option maxRecDepth 100000 in
set_option maxHeartbeats 4000000 in
theorem way_any (a : Option Addr) (n c : Nat) (L : List NodeV) (i : Nat) (w : World) (h : NodesAt w a n c L) (hn : n ≤ 1000) (hT : TreeP L) (hi : i < n) :
    Calls Try.prog 30 #[.slice a n c, .int .i64 i] w fun e w' => ∃ m g c', e = .returned (.slice (pA g) m c') ∧ Own1 N 3 w' w.heap.size (.slice (pA g) m c') (wayI L i) ∧ Below w.heap.size w w' := by
  have HL := Lib.hid h.1
  have HN := Lib.hid h
  have HT := Lib.hid hT
  have hnI : (n : Int) ≤ 1000 := by omega
  have HM := Lib.hid hn
  have HI := Lib.hid hi
  have HW := Lib.hid (wayQ_len L (i : Int))
  clear h hn hT hi
  go_enter Try.func30, Try.ntmps30
  go_wp2
  go_loopg [1, 5] (wayI L i).length (fun g v1 v5 W => ∃ (q : Int) (m : Nat) (aP : Option Addr) (cP : Nat) (acc : List Nat), v1 = .int .i64 q ∧ v5 = .slice aP m cP ∧ g = (wayQ L q).length ∧ Hid (PlQ L q) ∧ Hid (acc ++ (wayQ L q).reverse = (wayI L i).reverse) ∧ Hid (Own1 N 3 W w.heap.size (.slice aP m cP) acc) ∧ Hid (Below w.heap.size w W))
  case atStart => exact ⟨i, 0, none, 0, [], rfl, rfl, by rw [wayQ_nat], Lib.hid (.inr ⟨i, rfl, by rw [HL.out]; exact HI.out⟩), Lib.hid (by rw [wayQ_nat]; rfl), Lib.hid Own1.nil, Lib.hid (Below.refl _ _)⟩
  case round =>
    obtain ⟨q, m, aP, cP, acc, rfl, rfl, hg, HQ, HA, HO, HB⟩ := hrel
    have HG := Lib.hid hg
    by_cases hq : q = -1
    · subst hq
      have hacc : acc = (wayI L i).reverse := by have := HA.out; simpa [wayQ] using this
      have hm : 0 < m := by
        have h1 := HO.out.len
        rw [hacc, List.length_reverse] at h1
        have h2 := wayI_ne HT.out (i := i) (by rw [HL.out]; exact HI.out)
        have := List.length_pos_iff.2 h2
        omega
      obtain ⟨g, rfl, hgb, _⟩ := HO.out.row hm
      have hml : m ≤ 1000000 := by
        have h1 := HO.out.len
        rw [hacc, List.length_reverse, ← wayQ_nat] at h1
        have := HW.out
        have := HL.out
        have := HM.out
        omega
      have RV := Lib.hid (reverse_any HO.out hml)
      have HE := Lib.hid (show acc.reverse = wayI L i by rw [hacc]; simp)
      have HGB := Lib.hid hgb
      clear hg hacc hm hml hgb
      go_wp2_with (go_at_call 39; (with_reducible refine RV.out.mono ?_); rintro e w2 ⟨rfl, ho2, hg2⟩)
      go_ret
      exact ⟨m, g, cP, rfl, by rw [← HE.out]; exact ho2, HB.out.grown hg2 HB.out.size (fun k hk => by cases hk; exact HGB.out)⟩
    · obtain ⟨x, rfl, hx⟩ : ∃ x : Nat, q = (x : Int) ∧ x < n := by
        rcases HQ.out with h | ⟨x, h, h2⟩
        · exact absurd h hq
        · exact ⟨x, h, by rw [← HL.out]; exact h2⟩
      have hx0 : (0 : Int) ≤ (x : Int) := by omega
      have hxI : (x : Int) < (n : Int) := by omega
      have dx : ((x : Int) != -1) = true := bne_iff_ne.2 (by omega)
      have HX := Lib.hid (show x < L.length by rw [HL.out]; exact hx)
      have HXN := Lib.hid hx
      have HST := Lib.hid (wayI_step HT.out HX.out)
      have HO1 := Lib.hid (fun o => HO.out.alloc o)
      have HLM := Lib.hid HO.out.len
      have H48 := Lib.hid (show (acc.length + 1) * (8 + 1) ≤ 140737488355328 by
        have h1 := congrArg List.length HA.out
        simp at h1
        have h2 := HW.out
        rw [wayQ_nat] at h2
        have := HL.out
        have := HM.out
        omega)
      have HZ0 := Lib.hid (fun o => (show w.heap.size ≤ (wr.alloc o).heap.size by have := HB.out.size; simp; omega))
      have HPQ : Hid (PlQ L (nd L x).p) := Lib.hid (by
        rcases HT.out.par x HX.out with h | ⟨j, h, h2, _⟩
        · exact .inl h
        · exact .inr ⟨j, h, h2⟩)
      have HUP := Lib.hid (way_up HT.out HX.out)
      obtain ⟨b, o, rfl⟩ := HN.out.some_ (by omega)
      clear hg hq hx
      go_wp2_with (at_builtin; go_must (refine app1 N oneN Try.underlying27 infoN rfl rfl (.tmp 13) (.tmp 15) rfl w.heap.size _ acc rfl (HO1.out _) _ 1 1 [x] rfl (litAt _ _ x 3 rfl) H48.out (HZ0.out _) (m + 1) (by rw [HLM.out]) ?_); intro a2 c2 W2 ho2 hg2; have HB2 := Lib.hid ((HB.out.alloc HB.out.size _).grown hg2 (HZ0.out _) (fun k hk => (HO.out.lt k hk).1)); have cp := (HN.out.below HB2.out).par x HXN.out; have HO2 := Lib.hid ho2; clear ho2 hg2)
      go_roundg (wayQ L (nd L x).p).length
      case measure => have := HG.out; have := HUP.out; rw [wayQ_nat] at *; omega
      case rel => exact ⟨_, m + 1, a2, c2, acc ++ [x], rfl, by go_num, rfl, HPQ, Lib.hid (by have h := HA.out; rw [wayQ_nat, HST.out] at h; simpa using h), HO2, HB2⟩
#print axioms way_any
end Go.Proofs.Ytmenhbdapikpeaa

namespace Go.Proofs.Ytmenhbdapikpeaa
open Go.RowKit

/-- What Compare answers. -/
def CmpEnd (z : Int) (q : Bool) (w : World) (e : Ending) (w' : World) : Prop := e = .returned (.tuple #[.int .i64 z, .bool q]) ∧ Below w.heap.size w w'

set_option maxRecDepth 100000 in
set_option maxHeartbeats 1000000 in
theorem compare_no (a : Option Addr) (n c : Nat) (L : List NodeV) (x y : Int) (w : World) (h : NodesAt w a n c L) (hn : n ≤ 1000) (hb : (x < 0 ∨ (n : Int) ≤ x) ∨ (y < 0 ∨ (n : Int) ≤ y) ∨ ¬ RightT L) :
    Calls Try.prog 18 #[.slice a n c, .int .i64 x, .int .i64 y] w (CmpEnd 0 false w) := by
  by_cases hx : x < 0 ∨ (n : Int) ≤ x
  · have IP := Lib.hid (fun W => isPlace_no a n c x hx W)
    clear h hn hb hx
    go_enter Try.func18, Try.ntmps18
    go_wp2
    go_step3
    go_wp2_with (go_at_call 24; (with_reducible refine (IP.out _).mono ?_); rintro e w1 ⟨rfl, rfl⟩)
    (try rw [Exit.noGoto_ret])
    go_ret2
    exact ⟨rfl, Below.refl _ _⟩
  obtain ⟨i, rfl⟩ : ∃ i : Nat, x = (i : Int) := ⟨x.toNat, by omega⟩
  have IX := Lib.hid (fun W => isPlace_yes a n c i (by omega) W)
  by_cases hy : y < 0 ∨ (n : Int) ≤ y
  · have IP := Lib.hid (fun W => isPlace_no a n c y hy W)
    have HNE : Hid (True) := Lib.hid trivial
    clear h hn hb hx hy
    go_enter Try.func18, Try.ntmps18
    go_wp2
    go_step3
    go_wp2_with (first
      | (go_at_call 24; (with_reducible refine (IX.out _).mono ?_); rintro e w1 ⟨rfl, rfl⟩)
      | (go_at_call 24; (with_reducible refine (IP.out _).mono ?_); rintro e w1 ⟨rfl, rfl⟩))
    (try rw [Exit.noGoto_ret])
    go_ret2
    exact ⟨rfl, Below.refl _ _⟩
  obtain ⟨j, rfl⟩ : ∃ j : Nat, y = (j : Int) := ⟨y.toNat, by omega⟩
  have IY := Lib.hid (fun W => isPlace_yes a n c j (by omega) W)
  have hR : ¬ RightT L := by
    rcases hb with h | h | h
    · exact absurd h hx
    · exact absurd h hy
    · exact h
  have RI := Lib.hid (right_any a n c L w h hn false ⟨fun h => (Bool.false_ne_true h).elim, fun h => absurd h hR⟩)
  clear h hn hb hx hy hR
  go_enter Try.func18, Try.ntmps18
  go_wp2
  go_step3
  go_wp2_with (first
    | (go_at_call 24; (with_reducible refine (IX.out _).mono ?_); rintro e w1 ⟨rfl, rfl⟩)
    | (go_at_call 24; (with_reducible refine (IY.out _).mono ?_); rintro e w1 ⟨rfl, rfl⟩)
    | (go_at_call 10; (with_reducible refine RI.out.mono ?_); rintro e w1 ⟨rfl, hb1⟩; have HB1 := Lib.hid hb1; clear hb1))
  (try rw [Exit.noGoto_ret])
  go_ret2
  exact ⟨rfl, HB1.out⟩

theorem kys_at (L : List NodeV) {l : List Nat} {i : Nat} (h : i < l.length) : (kys L l).drop i = (nd L (l.getD i 0)).k :: (kys L l).drop (i + 1) := by
  unfold kys
  rw [List.drop_eq_getElem_cons (by simpa using h)]
  simp [h]
/-- As far as two ways go together. -/
def Tog (L : List NodeV) (A B : List Nat) (i : Nat) : Prop := i ≤ A.length ∧ i ≤ B.length ∧ wayF (kys L A) (kys L B) = wayF ((kys L A).drop i) ((kys L B).drop i)
theorem tog_zero (L : List NodeV) (A B : List Nat) : Tog L A B 0 := ⟨Nat.zero_le _, Nat.zero_le _, rfl⟩
theorem Tog.next {L : List NodeV} {A B : List Nat} {i : Nat} (h : Tog L A B i) (ha : i < A.length) (hb : i < B.length) (he : A.getD i 0 = B.getD i 0) : Tog L A B (i + 1) := by
  refine ⟨ha, hb, ?_⟩
  rw [h.2.2, kys_at L ha, kys_at L hb, he]
  simp [wayF, keyF_self]
theorem Tog.part {L : List NodeV} {A B : List Nat} {i : Nat} (h : Tog L A B i) (ha : i < A.length) (hb : i < B.length) (hk : keyF (nd L (B.getD i 0)).k (nd L (A.getD i 0)).k ≠ 0) : wayF (kys L A) (kys L B) = keyF (nd L (B.getD i 0)).k (nd L (A.getD i 0)).k := by
  rw [h.2.2, kys_at L ha, kys_at L hb]
  show (if _ then _ else _) = _
  rw [if_neg hk]
theorem Tog.a_end {L : List NodeV} {A B : List Nat} {i : Nat} (h : Tog L A B i) (ha : i = A.length) (hb : i < B.length) : wayF (kys L A) (kys L B) = -1 := by
  rw [h.2.2, kys_at L hb, List.drop_eq_nil_of_le (by simp [kys]; omega)]
  rfl
theorem Tog.b_end {L : List NodeV} {A B : List Nat} {i : Nat} (h : Tog L A B i) (ha : i < A.length) (hb : i = B.length) : wayF (kys L A) (kys L B) = 1 := by
  have e : (kys L B).drop i = [] := List.drop_eq_nil_of_le (by simp [kys]; omega)
  rw [h.2.2, kys_at L ha, e]
  rfl
theorem Tog.end_ {L : List NodeV} {A B : List Nat} {i : Nat} (h : Tog L A B i) (ha : i = A.length) (hb : i = B.length) : wayF (kys L A) (kys L B) = 0 := by
  have e1 : (kys L A).drop i = [] := List.drop_eq_nil_of_le (by simp [kys]; omega)
  have e2 : (kys L B).drop i = [] := List.drop_eq_nil_of_le (by simp [kys]; omega)
  rw [h.2.2, e1, e2]
  rfl

set_option maxRecDepth 100000 in
set_option maxHeartbeats 4000000 in
theorem compare_yes (a : Option Addr) (n c : Nat) (L : List NodeV) (x y : Nat) (w : World) (h : NodesAt w a n c L) (hn : n ≤ 1000) (hR : RightT L) (hx : x < n) (hy : y < n) (z : Int) (hz : cmpT L x y = z) :
    Calls Try.prog 18 #[.slice a n c, .int .i64 x, .int .i64 y] w (CmpEnd z true w) := by
  have HL := Lib.hid h.1
  have HN := Lib.hid h
  have HT := Lib.hid hR.2
  have hnI : (n : Int) ≤ 1000 := by omega
  have HM := Lib.hid hn
  have HZ := Lib.hid hz
  have IX := Lib.hid (fun W => isPlace_yes a n c x hx W)
  have IY := Lib.hid (fun W => isPlace_yes a n c y hy W)
  have RI := Lib.hid (right_any a n c L w h hn true ⟨fun _ => hR, fun _ => rfl⟩)
  have WX := Lib.hid (fun W (hb : Below w.heap.size w W) => way_any a n c L x W (h.below hb) hn hR.2 hx)
  have WY := Lib.hid (fun W (hb : Below w.heap.size w W) => way_any a n c L y W (h.below hb) hn hR.2 hy)
  have HA32 := Lib.hid (fun k (hk : k < n) => (h.ok hk).1)
  have HMA := Lib.hid (wayI_mem hR.2 x (by rw [h.1]; exact hx))
  have HMB := Lib.hid (wayI_mem hR.2 y (by rw [h.1]; exact hy))
  obtain ⟨A, hA⟩ : ∃ A, wayI L x = A := ⟨_, rfl⟩
  obtain ⟨B, hB⟩ : ∃ B, wayI L y = B := ⟨_, rfl⟩
  have hAl : A.length ≤ n := by have := wayQ_len L (x : Int); rw [wayQ_nat, hA, h.1] at this; exact this
  have hBl : B.length ≤ n := by have := wayQ_len L (y : Int); rw [wayQ_nat, hB, h.1] at this; exact this
  rw [hA] at WX HMA
  rw [hB] at WY HMB
  have HZ2 := Lib.hid (show wayF (kys L A) (kys L B) = z by rw [← hz, ← hA, ← hB]; rfl)
  have HAL := Lib.hid hAl
  have HBL := Lib.hid hBl
  clear h hn hR hx hy hz hA hB hAl hBl
  go_enter Try.func18, Try.ntmps18
  go_wp2
  go_step3
  go_wp2_with (first
    | (go_at_call 24; (with_reducible refine (IX.out _).mono ?_); rintro e w1 ⟨rfl, rfl⟩)
    | (go_at_call 24; (with_reducible refine (IY.out _).mono ?_); rintro e w1 ⟨rfl, rfl⟩)
    | (go_at_call 10; (with_reducible refine RI.out.mono ?_); rintro e w1 ⟨rfl, hb1⟩; have HB1 := Lib.hid hb1; clear hb1)
    | (go_at_call 30; have _ := Q1; (with_reducible refine (WY.out _ HB2.out).mono ?_); rintro e w3 ⟨mB, gB, cB, rfl, hoB, hbB⟩; have HOB := Lib.hid hoB; have HOA2 := Lib.hid (HOA.out.below hbB); have HB3 := Lib.hid (HB2.out.trans (hbB.mono HB2.out.size)); clear hoB hbB)
    | (go_at_call 30; (with_reducible refine (WX.out _ HB1.out).mono ?_); rintro e w2 ⟨mA, gA, cA, rfl, hoA, hbA⟩; have HOA := Lib.hid hoA; have HB2 := Lib.hid (HB1.out.trans (hbA.mono HB1.out.size)); have Q1 := trivial; clear hoA hbA))
  obtain ⟨mx, hmx⟩ : ∃ m, m = max mA mB := ⟨_, rfl⟩
  have HMX := Lib.hid hmx
  have HLA := Lib.hid (show A.length = mA from HOA2.out.len)
  have HLB := Lib.hid (show B.length = mB from HOB.out.len)
  have hmI : (mx : Int) ≤ 1000 := by have := HAL.out; have := HBL.out; have := HLA.out; have := HLB.out; omega
  clear hmx
  go_step3
  go_wp2
  go_loopg [10, 38] mx (fun g v10 v38 W => ∃ i : Nat, Below w3.heap.size w3 W ∧ v10 = .int .i64 0 ∧ v38 = .int .i64 i ∧ g + i = mx ∧ Hid (Tog L A B i))
  case atStart => exact ⟨0, Below.refl _ _, rfl, rfl, rfl, Lib.hid (tog_zero L A B)⟩
  case round =>
    obtain ⟨i, hbw, rfl, rfl, hg, HTo⟩ := hrel
    have HG := Lib.hid hg
    have HB := Lib.hid (HB3.out.trans (hbw.mono HB3.out.size))
    have HBr := Lib.hid hbw
    have hi0 : (0 : Int) ≤ (i : Int) := by omega
    have hiM : (i : Int) ≤ (mx : Int) := by omega
    have hiA : i ≤ mA := by rw [← HLA.out]; exact HTo.out.1
    have hiB : i ≤ mB := by rw [← HLB.out]; exact HTo.out.2.1
    by_cases hi : (i : Int) < max (mA : Int) (mB : Int)
    · by_cases hA : i = mA
      · have eA : ((i : Int) == (mA : Int)) = true := by simp [hA]
        have HE := Lib.hid (show z = -1 by rw [← HZ2.out]; exact HTo.out.a_end (by rw [HLA.out]; exact hA) (by rw [HLB.out]; have := HMX.out; omega))
        clear hg hA hiA hiB
        go_wp2
        (try rw [Exit.noGoto_ret])
        go_ret2
        exact ⟨by rw [HE.out]; rfl, HB.out⟩
      have eA : ((i : Int) == (mA : Int)) = false := by simp; omega
      by_cases hB : i = mB
      · have eB : ((i : Int) == (mB : Int)) = true := by simp [hB]
        have HE := Lib.hid (show z = 1 by rw [← HZ2.out]; exact HTo.out.b_end (by rw [HLA.out]; omega) (by rw [HLB.out]; exact hB))
        clear hg hA hB hiA hiB
        go_wp2
        (try rw [Exit.noGoto_ret])
        go_ret2
        exact ⟨by rw [HE.out]; rfl, HB.out⟩
      have eB : ((i : Int) == (mB : Int)) = false := by simp; omega
      have hA1 : i < mA := by omega
      have hB1 : i < mB := by omega
      have hA1I : (i : Int) < (mA : Int) := by omega
      have hB1I : (i : Int) < (mB : Int) := by omega
      have ca := (HOA2.out.at1.below hbw).cell i hA1
      have cb := (HOB.out.at1.below hbw).cell i hB1
      rw [Nat.zero_add] at ca cb
      obtain ⟨p, hp⟩ : ∃ p, p = A.getD i 0 := ⟨_, rfl⟩
      obtain ⟨q, hq⟩ : ∃ q, q = B.getD i 0 := ⟨_, rfl⟩
      have hpn : p < n := by rw [← HL.out, hp]; exact HMA.out _ (getD_mem (by rw [HLA.out]; exact hA1))
      have hqn : q < n := by rw [← HL.out, hq]; exact HMB.out _ (getD_mem (by rw [HLB.out]; exact hB1))
      rw [← hp] at ca
      rw [← hq] at cb
      unfold N at ca cb
      have hp0 : (0 : Int) ≤ (p : Int) := by omega
      have hpI : (p : Int) < (n : Int) := by omega
      have hq0 : (0 : Int) ≤ (q : Int) := by omega
      have hqI : (q : Int) < (n : Int) := by omega
      have HIA := Lib.hid (show i < A.length by rw [HLA.out]; exact hA1)
      have HIB := Lib.hid (show i < B.length by rw [HLB.out]; exact hB1)
      have HP := Lib.hid hp
      have HQ := Lib.hid hq
      have HPN := Lib.hid hpn
      have HQN := Lib.hid hqn
      obtain ⟨b, o, rfl⟩ := HN.out.some_ (by omega)
      clear hg hA hB hiA hiB hp hq hpn hqn
      by_cases hpq : p = q
      · subst hpq
        have dn : ((p : Int) != (p : Int)) = false := by simp
        have HN2 := Lib.hid (HTo.out.next HIA.out HIB.out (by rw [← HP.out]; exact HQ.out))
        go_wp2
        go_quiet (fail)
        have HB2 := Lib.hid (below_drewK HBr.out nq)
        generalize wr.drewN nq = w9 at HB2 ⊢
        go_wp2
        go_roundg (mx - (i + 1))
        case measure => have := HG.out; have := HMX.out; omega
        case rel => exact ⟨i + 1, HB2.out, rfl, by go_num, by have := HG.out; have := HMX.out; omega, HN2⟩
      · have dn : ((p : Int) != (q : Int)) = true := by simp; omega
        have hk0 : keyF (nd L q).k (nd L p).k ≠ 0 := fun e => hpq (HT.out.key q p (by rw [HL.out]; exact HQN.out) (by rw [HL.out]; exact HPN.out) (keyF_eq e)).symm
        have hkz : keyF (nd L q).k (nd L p).k = z := by
          rw [← HZ2.out, HTo.out.part HIA.out HIB.out (by rw [← HP.out, ← HQ.out]; exact hk0), ← HP.out, ← HQ.out]
        have KA := Lib.hid (fun W => keys_is _ _ z hkz W (HA32.out q HQN.out) (HA32.out p HPN.out))
        clear hpq hk0 hkz
        go_wp2
        go_quiet (fail)
        have HB9 := Lib.hid (below_drewK HBr.out nq)
        generalize wr.drewN nq = w9 at HB9 ⊢
        clear ca cb
        have HNd := Lib.hid ((HN.out.below (HB3.out.trans (HB9.out.mono HB3.out.size))).below (Below.refl _ _).drew)
        have HCp := Lib.hid (HNd.out.key p HPN.out)
        have HCq := Lib.hid (HNd.out.key q HQN.out)
        have ca := (HOA2.out.at1.below HB9.out).cell i hA1
        have cb := (HOB.out.at1.below HB9.out).cell i hB1
        rw [Nat.zero_add, ← HP.out] at ca
        rw [Nat.zero_add, ← HQ.out] at cb
        unfold N at ca cb
        have HXp := Lib.hid (HA32.out p HPN.out)
        have HXq := Lib.hid (HA32.out q HQN.out)
        go_wp2
        refine wp_region_still_tail 16 (by kernel_rfl) (by kernel_rfl) ?_
        simp only [List.take_succ_cons, List.take_zero, List.drop_succ_cons, List.drop_zero]
        iterate 7 still_step
        refine still_w (by rfl) (exec_loadKey _ rfl _ _ _ HXq.out rfl HCq.out) ?_
        simp only [Act.put, List.setIfInBounds_toArray, List.set_cons_zero, List.set_cons_succ]
        iterate 7 still_step
        refine still_w (by rfl) (exec_loadKey _ rfl _ _ _ HXp.out rfl HCp.out) ?_
        simp only [Act.put, List.setIfInBounds_toArray, List.set_cons_zero, List.set_cons_succ]
        refine wpStill_nil ?_
        change wpList _ _ _ _ _ w9.drew
        have HBd := Lib.hid (HB3.out.trans (HB9.out.drew.mono HB3.out.size))
        clear ca cb
        generalize w9.drew = wd at HBd ⊢
        go_wp2_with (go_at_call 20; (with_reducible refine (KA.out _).mono ?_); rintro e w8 ⟨rfl, hb8⟩; have HB8 := Lib.hid (HBd.out.trans (hb8.mono HBd.out.size)); clear hb8)
        (try rw [Exit.noGoto_ret])
        go_ret2
        exact ⟨rfl, HB8.out⟩
    · have HE := Lib.hid (show z = 0 by
        rw [← HZ2.out]
        exact HTo.out.end_ (by rw [HLA.out]; have := HMX.out; omega) (by rw [HLB.out]; have := HMX.out; omega))
      clear hg hiA hiB
      go_wp2
      (try rw [Exit.noGoto_ret])
      go_ret2
      exact ⟨by rw [HE.out]; rfl, HB.out⟩
#print axioms compare_yes
end Go.Proofs.Ytmenhbdapikpeaa

namespace Go.Proofs.Ytmenhbdapikpeaa
open Go.RowKit

def aw1 : NodeV := ⟨⟨1, idZero, 0⟩, -1, 97, false⟩
def aw2 : NodeV := ⟨⟨2, idZero, 0⟩, 0, 98, true⟩
def aw3 : NodeV := ⟨⟨3, idZero, 0⟩, 0, 99, false⟩
def awL : List NodeV := [aw1, aw2, aw3]
theorem aw_ok : ∀ x ∈ awL, NdOk x := by
  intro x hx
  simp only [awL, List.mem_cons, List.not_mem_nil, or_false] at hx
  rcases hx with rfl | rfl | rfl
  · exact ⟨rfl, _, (by kernel_rfl : keyOf Try.prog 41 (.agg (keyC aw1.k)) = some (.string (keyBytes ((Try.prog.keyLits (Try.prog.types.size + 1) 41 (keyL aw1.k)).getD []))))⟩
  · exact ⟨rfl, _, (by kernel_rfl : keyOf Try.prog 41 (.agg (keyC aw2.k)) = some (.string (keyBytes ((Try.prog.keyLits (Try.prog.types.size + 1) 41 (keyL aw2.k)).getD []))))⟩
  · exact ⟨rfl, _, (by kernel_rfl : keyOf Try.prog 41 (.agg (keyC aw3.k)) = some (.string (keyBytes ((Try.prog.keyLits (Try.prog.types.size + 1) 41 (keyL aw3.k)).getD []))))⟩
theorem lt3 {i : Nat} (h : i < 3) : i = 0 ∨ i = 1 ∨ i = 2 := by omega
theorem aw_tree : TreeP awL := by
  refine ⟨fun i hi => ?_, fun i j hi hj e => ?_⟩
  · rcases lt3 hi with rfl | rfl | rfl
    · exact .inl rfl
    · exact .inr ⟨0, rfl, by decide, by decide⟩
    · exact .inr ⟨0, rfl, by decide, by decide⟩
  · have h := congrArg KeyV.t e
    rcases lt3 hi with rfl | rfl | rfl <;> rcases lt3 hj with rfl | rfl | rfl <;> first | rfl | (exact absurd h (by decide))
theorem aw_right : RightT awL := by
  refine ⟨fun i hi => ?_, aw_tree⟩
  rcases lt3 hi with rfl | rfl | rfl <;> decide
theorem aw_ord : OrdT awL [0, 2, 1] := by
  refine ⟨?_, fun i => ?_⟩
  · refine List.pairwise_cons.2 ⟨fun b hb => ?_, List.pairwise_cons.2 ⟨fun b hb => ?_, by simp⟩⟩
    · simp at hb
      rcases hb with rfl | rfl <;> decide
    · simp at hb
      subst hb
      decide
  · have : awL.length = 3 := rfl
    rw [this]
    simp
    omega
theorem aw_text : textT awL [0, 2, 1] = [97, 99] := by decide
/-- A slice literal of elements. -/
theorem lit_nodes (w : World) (L : List NodeV) (hL : ∀ x ∈ L, NdOk x) (n : Nat) (hn : L.length = n) (h63 : n ≤ 1000) (cs : Array Value) (hcs : cs = (nflat L).toArray) (E : TypeId) : NodesAt (w.alloc (.cells cs E)) (pA w.heap.size) n n L := by
  subst hcs
  refine ⟨hn, Nat.le_refl _, by omega, hL, .inr ⟨_, _, rfl, fun j hj i v hv => ?_⟩⟩
  have hi : i < 37 := by
    have h3 := (List.getElem?_eq_some_iff.1 hv).1
    rwa [nodeL_length (nd_ok hL (by omega))] at h3
  rw [Nat.zero_add, World.cell?_alloc_new]
  simpa using (nflat_at hL j i (by omega) hi).trans hv
theorem aw_fill : Instr.fill (fun i => some (i * 37, 37)) ((Array.range (3 * 37)).map ((Value.agg (nodeC ⟨⟨0, idZero, 0⟩, 0, 0, false⟩)).cells[· % (Value.agg (nodeC ⟨⟨0, idZero, 0⟩, 0, 0, false⟩)).cells.size]!)) [(0, .agg (nodeC aw1)), (1, .agg (nodeC aw2)), (2, .agg (nodeC aw3))] = some (nflat awL).toArray := by kernel_rfl
theorem sl_three {T E : TypeId} {by_ : Nat} (hU : Try.prog.underlying T = some (.slice E)) (hI : (Try.prog.info? E).map (fun i => (i.zero, i.size, i.bytes)) = some (some (.agg (nodeC ⟨⟨0, idZero, 0⟩, 0, 0, false⟩)), 37, by_))
    {ops : Array Oper} {rest : List Oper} {o : Oper} {a : Act} {w : World} {Q : Exit → Act → World → Prop} (hg : o.guard = none) (x y z : Operand) (ho : o.op = .buildSlice T 3 #[(0, x), (1, y), (2, z)]) (hx : a.eval x = .agg (nodeC aw1)) (hy : a.eval y = .agg (nodeC aw2)) (hz : a.eval z = .agg (nodeC aw3))
    (h : wpList Try.prog ops Q rest (a.put o.dst (.slice (some ⟨w.heap.size, 0, none⟩) 3 3)) (w.alloc (.cells (nflat awL).toArray E))) : wpList Try.prog ops Q (o :: rest) a w := by
  obtain ⟨i0, hi, hz0, hz1, hz2⟩ := info_parts hI
  refine wpList_buildSlice hg T E 3 #[(0, x), (1, y), (2, z)] ho (nflat awL).toArray i0 _ hU hi hz0 (by rw [hz1]; decide) (by rw [hz1]; decide) ?_ h
  rw [hz1]
  have e : (#[(0, x), (1, y), (2, z)].map fun (p : Nat × Operand) => (p.1, a.eval p.2)).toList = [(0, .agg (nodeC aw1)), (1, .agg (nodeC aw2)), (2, .agg (nodeC aw3))] := by simp [hx, hy, hz]
  exact (congrArg (Instr.fill (fun i => some (i * 37, 37)) _) e).trans aw_fill
/-- An operation that builds a value of closed parts. -/
theorem wl_build {ops : Array Oper} {rest : List Oper} {o : Oper} {a : Act} {w : World} {Q : Exit → Act → World → Prop} (hg : o.guard = none) (t : TypeId) (parts : Array (Nat × Operand)) (ho : o.op = .build t parts) (cells : Array Value) (vs : List (Nat × Value))
    (hv : (parts.map fun (i, x) => (i, a.eval x)).toList = vs) (hf : Try.prog.built t vs = some cells) (h : wpList Try.prog ops Q rest (a.put o.dst (.agg cells)) w) : wpList Try.prog ops Q (o :: rest) a w := by
  refine wpList_build hg t parts ho ?_ ?_
  · rw [hv, hf]; rfl
  · rw [hv, hf]; exact h

theorem lit_three (w : World) (g : Nat) (hg : g = w.heap.size) : At1 N (w.alloc (.cells #[.int .i64 0, .int .i64 2, .int .i64 1] 3)) (pA g) 3 3 [0, 2, 1] := by
  subst hg
  refine ⟨rfl, Nat.le_refl _, by omega, .inr ⟨_, _, rfl, fun j hj => ?_⟩⟩
  rw [Nat.zero_add, World.cell?_alloc_new]
  rcases lt3 hj with rfl | rfl | rfl <;> rfl

set_option maxRecDepth 100000 in
set_option maxHeartbeats 2000000 in
theorem awake_any (w : World) : Calls Try.prog 14 #[] w fun e w' => e = .returned (.bool true) ∧ Below w.heap.size w w' := by
  have HA : Hid (NodesAt (World.alloc w (.cells (nflat awL).toArray 44)) (pA w.heap.size) 3 3 awL) := Lib.hid (lit_nodes w awL aw_ok 3 rfl (by omega) _ rfl _)
  have HB0 := Lib.hid ((Below.refl w.heap.size w).alloc (Nat.le_refl _) (.cells (nflat awL).toArray 44))
  have OR : Hid (∀ W, NodesAt W (pA w.heap.size) 3 3 awL → Calls Try.prog 12 #[.slice (pA w.heap.size) 3 3] W fun e w' => ∃ a1 c1, e = .returned (.slice a1 3 c1) ∧ At1 N w' a1 3 c1 [0, 2, 1] ∧ Below W.heap.size W w') := Lib.hid (fun W h => (order_any _ _ _ awL W h (by omega) aw_right).mono (by
    rintro e w' ⟨a1, c1, l, rfl, h1, h2, h3⟩
    rw [ordT_unique h1 aw_ord] at h2
    exact ⟨a1, c1, rfl, h2.at1, h3⟩))
  have TX : Hid (∀ W, NodesAt W (pA w.heap.size) 3 3 awL → Calls Try.prog 13 #[.slice (pA w.heap.size) 3 3] W fun e w' => e = .returned (.string (strB [97, 99])) ∧ Below W.heap.size W w') := Lib.hid (fun W h => by
    have h1 := treeText_any _ _ _ awL W h (by omega) aw_right [0, 2, 1] aw_ord
    rw [aw_text] at h1
    exact h1)
  have RI : Hid (∀ W, NodesAt W (pA w.heap.size) 3 3 awL → Calls Try.prog 10 #[.slice (pA w.heap.size) 3 3] W fun e w' => e = .returned (.bool true) ∧ Below W.heap.size W w') := Lib.hid (fun W h => right_any _ _ _ awL W h (by omega) true ⟨fun _ => aw_right, fun _ => rfl⟩)
  have hq : ((strB [97, 99]).toList == [97, 99]) = true := by rw [Lib.toList_data, strB_list]; rfl
  go_enter Try.func14, Try.ntmps14
  go_wp2_with (first
    | (refine sl_three Try.underlying25 infoT rfl _ _ _ rfl rfl rfl rfl ?_)
    | (go_at_call 12; (with_reducible refine (OR.out _ HA.out).mono ?_); rintro e w1 ⟨a1, c1, rfl, ho1, hb1⟩; have HO := Lib.hid ho1; have HN1 := Lib.hid (HA.out.below hb1); have HB1 := Lib.hid (HB0.out.trans (hb1.mono HB0.out.size)); have HS1 := Lib.hid hb1.size; clear ho1 hb1)
    | (go_at_call 15; go_must (refine (ints_any a1 3 c1 [0, 2, 1] (pA w1.heap.size) 3 3 [0, 2, 1] _ (HO.out.below ((Below.refl w1.heap.size w1).alloc (Nat.le_refl _) _)) (lit_three w1 _ rfl) (by omega)).mono ?_); rintro e w2 ⟨rfl, hb2⟩; have HB2 := Lib.hid ((HB1.out.alloc HB1.out.size _).trans (hb2.mono (by have := HB1.out.size; simp; omega))); have HN2 := Lib.hid ((HN1.out.below ((Below.refl w1.heap.size w1).alloc (Nat.le_refl _) _)).below hb2); clear hb2; rw [decide_eq_true rfl])
    | (go_at_call 13; (with_reducible refine (TX.out _ HN2.out).mono ?_); rintro e w3 ⟨rfl, hb3⟩; have HN3 := Lib.hid (HN2.out.below hb3); have HB3 := Lib.hid (HB2.out.trans (hb3.mono HB2.out.size)); clear hb3)
    | (go_at_call 10; (with_reducible refine (RI.out _ HN3.out).mono ?_); rintro e w4 ⟨rfl, hb4⟩; have HB4 := Lib.hid (HB3.out.trans (hb4.mono HB3.out.size)); clear hb4))
  go_ret
  exact ⟨rfl, HB4.out⟩
#print axioms awake_any
end Go.Proofs.Ytmenhbdapikpeaa
