/-
  The walk of the document's Ints, in order's seat.
-/
import Derived.Test.YtmenhbdapikpeaaOne0
import Derived.Lib.Hide
import Derived.StillTailTactics
import Derived.ChangeKeysEq
import Derived.Laws.StructEq
namespace Go.Proofs.Ytmenhbdapikpeaa
open Go.RowKit

theorem retBo {a b : Bool} (h : a = b) : Ending.returned (.bool a) = .returned (.bool b) := by rw [h]

theorem take_next_n {l m : List Nat} {j : Nat} (h : l.take j = m.take j) (hl : j < l.length) (hm : j < m.length) (he : l.getD j 0 = m.getD j 0) : l.take (j + 1) = m.take (j + 1) := by
  rw [List.take_succ_eq_append_getElem hl, List.take_succ_eq_append_getElem hm, h]
  simp [hl, hm] at he
  rw [he]

set_option maxRecDepth 100000 in
set_option maxHeartbeats 1000000 in
theorem ints_any (a : Option Addr) (n c : Nat) (l : List Nat) (b : Option Addr) (m d : Nat) (k : List Nat) (w : World) (ha : At1 N w a n c l) (hb : At1 N w b m d k) (hn : n ≤ 1000000000) :
    Calls Try.prog 15 #[.slice a n c, .slice b m d] w fun e w' => e = .returned (.bool (decide (l = k))) ∧ Below w.heap.size w w' := by
  have hla := ha.1
  have hlb := hb.1
  by_cases hnm : n = m
  · subst hnm
    have HA := Lib.hid ha
    have HB := Lib.hid hb
    have HLA := Lib.hid hla
    have HLB := Lib.hid hlb
    have HI := Lib.hid (show l.take 0 = k.take 0 from rfl)
    have hnI : (n : Int) ≤ 1000000000 := by omega
    clear ha hb hla hlb hn
    go_enter Try.func15, Try.ntmps15
    go_wp2
    go_loopg [5] n (fun g v5 W => ∃ j : Nat, Below w.heap.size w W ∧ v5 = .int .i64 j ∧ g + j = n ∧ Hid (l.take j = k.take j))
    case atStart => exact ⟨0, Below.refl _ _, rfl, rfl, HI⟩
    case round =>
      obtain ⟨j, hbw, rfl, hg, hinv⟩ := hrel
      have HG := Lib.hid hg
      have hj0 : (0 : Int) ≤ (j : Int) := by omega
      have hjI : (j : Int) ≤ (n : Int) := by omega
      by_cases hj : (j : Int) < (n : Int)
      · have hjn : j < n := by omega
        obtain ⟨ba, oa, rfl⟩ := HA.out.some_ (by omega)
        obtain ⟨bb, ob, rfl⟩ := HB.out.some_ (by omega)
        obtain ⟨x, hx⟩ : ∃ x, x = l.getD j 0 := ⟨_, rfl⟩
        obtain ⟨y, hy⟩ : ∃ y, y = k.getD j 0 := ⟨_, rfl⟩
        have hca : wr.cell? ⟨ba, oa + j, none⟩ = some (.int .i64 (x : Int)) := by rw [hx]; exact (HA.out.below hbw).cell j hjn
        have hcb : wr.cell? ⟨bb, ob + j, none⟩ = some (.int .i64 (y : Int)) := by rw [hy]; exact (HB.out.below hbw).cell j hjn
        have HX := Lib.hid hx
        have HY := Lib.hid hy
        clear hg hx hy
        by_cases he : x = y
        · subst he
          have hne : ((x : Int) != (x : Int)) = false := by simp
          have HN := Lib.hid (take_next_n hinv.out (by rw [HLA.out]; omega) (by rw [HLB.out]; omega) (HX.out.symm.trans HY.out))
          go_wp2
          go_quiet (fail)
          have hbd := below_drewN hbw nq
          go_wp2
          go_roundg (gk - 1)
          case measure => have := HG.out; omega
          case rel => exact ⟨j + 1, hbd, by go_num, by have := HG.out; omega, HN⟩
        · have hne : ((x : Int) != (y : Int)) = true := by simp; omega
          have HN := Lib.hid (show l ≠ k from fun h => he (by rw [HX.out, HY.out, h]))
          go_wp2
          go_quiet (fail)
          have hbd := below_drewN hbw nq
          go_wp2
          go_ret
          exact ⟨retBo (decide_eq_false HN.out).symm, hbd⟩
      · have HE := Lib.hid (show l = k by
          have h1 := hinv.out
          rw [List.take_of_length_le (by rw [HLA.out]; omega), List.take_of_length_le (by rw [HLB.out]; omega)] at h1
          exact h1)
        clear hg
        go_wp2
        go_ret
        exact ⟨retBo (decide_eq_true HE.out).symm, hbw⟩
  · have HE := Lib.hid (show l ≠ k from fun h => hnm (by rw [← hla, ← hlb, h]))
    have hd : ((n : Int) != (m : Int)) = true := by simp; omega
    clear ha hb hla hlb hn hnm
    go_enter Try.func15, Try.ntmps15
    go_wp2
    go_ret
    exact ⟨retBo (decide_eq_false HE.out).symm, Below.refl _ _⟩
#print axioms ints_any

end Go.Proofs.Ytmenhbdapikpeaa
