/-
  The document's Same, of two lists that are alike.
-/
import Derived.Test.YtbfaaphijgmabaaDoorMyCost
namespace Go.Proofs.YtbfaaphijgmabaaDoor
open Go.RowKit My

set_option maxRecDepth 100000 in
set_option maxHeartbeats 4000000 in
theorem same_yes16 (a b : Option Addr) (n ca cb : Nat) (L : List EdV) (w : World) (ha : AtG edK w a n ca L) (hb : AtG edK w b n cb L) (hn : n ≤ 100000) :
    Calls Tryd.prog 15 #[.slice a n ca, .slice b n cb] w (BoolIs true w) := by
  have HA := Lib.hid ha
  have HB := Lib.hid hb
  have hnI : (n : Int) ≤ 100000 := by omega
  clear ha hb hn
  go_enter Tryd.func15, Tryd.ntmps15
  go_wp2_with fail
  go_loopg [5] n (fun gh v5 W => ∃ i : Nat, v5 = .int .i64 i ∧ gh + i = n ∧ Hid (Below w.heap.size w W))
  case atStart => exact ⟨0, rfl, rfl, Lib.hid (Below.refl _ _)⟩
  case round =>
    obtain ⟨i, rfl, hgh, HW⟩ := hrel
    have HGH := Lib.hid hgh
    have hi0 : (0 : Int) ≤ (i : Int) := by omega
    have hin : (i : Int) ≤ (n : Int) := by omega
    clear hgh
    by_cases hi : (i : Int) < (n : Int)
    · have hib : decide (i < n) = true := by simp; omega
      have HI := Lib.hid (show i < n by omega)
      obtain ⟨b1, o1, rfl⟩ := HA.out.some_ (by omega)
      obtain ⟨b2, o2, rfl⟩ := HB.out.some_ (by omega)
      have hx := (HA.out.below HW.out).at_ i HI.out
      have hy := (HB.out.below HW.out).at_ i HI.out
      obtain ⟨x, hxg⟩ : ∃ x, gd L i = x := ⟨_, rfl⟩
      rw [hxg] at hx hy
      have x0 : wr.cell? ⟨b1, o1 + i * 3, none⟩ = some (.int .i64 x.k) := hx 0 (.int .i64 x.k) rfl
      have x1 : wr.cell? ⟨b1, o1 + i * 3 + 1, none⟩ = some (.int .i64 x.d) := hx 1 (.int .i64 x.d) rfl
      have x2 : wr.cell? ⟨b1, o1 + i * 3 + 2, none⟩ = some (.string (strB x.s)) := hx 2 (.string (strB x.s)) rfl
      have y0 : wr.cell? ⟨b2, o2 + i * 3, none⟩ = some (.int .i64 x.k) := hy 0 (.int .i64 x.k) rfl
      have y1 : wr.cell? ⟨b2, o2 + i * 3 + 1, none⟩ = some (.int .i64 x.d) := hy 1 (.int .i64 x.d) rfl
      have y2 : wr.cell? ⟨b2, o2 + i * 3 + 2, none⟩ = some (.string (strB x.s)) := hy 2 (.string (strB x.s)) rfl
      clear hx hy hxg
      go_wp2_with fail
      go_quiet (fail)
      go_wp2
      go_roundg (n - (i + 1))
      case measure => have := HGH.out; have := HI.out; omega
      case rel => exact ⟨i + 1, by go_num, by have := HGH.out; have := HI.out; omega, Lib.hid (HW.out.trans ((below_drewN _ _).mono HW.out.size))⟩
    · have hib : decide (i < n) = false := by simp; omega
      go_wp2
      go_ret
      exact ⟨rfl, HW.out⟩
#print axioms same_yes16
end Go.Proofs.YtbfaaphijgmabaaDoor
