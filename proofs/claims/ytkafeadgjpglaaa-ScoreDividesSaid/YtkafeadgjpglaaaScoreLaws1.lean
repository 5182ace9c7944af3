/-
  The walks of the laws ScoreOrders and ScoreDivides.
-/
import Derived.Test.YtkafeadgjpglaaaScoreAwake
namespace Go.Proofs.Ytkafeadgjpglaaa
open Go.RowKit

set_option maxRecDepth 100000 in
set_option maxHeartbeats 2000000 in
theorem scoreOrders_any (x y : Nat) (w : World) (hx : x < 18446744073709551616) (hy : y < 18446744073709551616) : Calls Try.prog 4 #[.float .f64 x, .float .f64 y] w (Yes w) := by
  obtain ⟨z, hz⟩ : ∃ z, z = ordF x y := ⟨_, rfl⟩
  have H1 := fun W => Lib.hid (order_is x y z W hx hy hz)
  have H2 := fun W => Lib.hid (refOrder_is x y z W hx hy hz)
  clear hz hx hy
  go_enter Try.func4, Try.ntmps4
  go_wp2_with (first
    | (go_at_call 21; (with_reducible refine (H1 _).out.mono ?_); rintro e w9 ⟨rfl, rfl⟩)
    | (go_at_call 15; (with_reducible refine (H2 _).out.mono ?_); rintro e w9 ⟨rfl, rfl⟩)
    | (go_at_call 20; (with_reducible refine (awake_any _).mono ?_); rintro e w1 ⟨rfl, hb⟩; have HB := Lib.hid hb; clear hb))
  go_ret
  exact ⟨rfl, HB.out⟩

/-- The two floats of Ratio, or Like, are one in their order. -/
theorem like_ord {c n m : Int} {w1 w1' w2 w2' : World} {e1 e2 : Ending} (h1 : LikeIs c n m w1 e1 w1') (h2 : LikeIs c n m w2 e2 w2') :
    ∃ r s, e1 = .returned (.float .f64 r) ∧ e2 = .returned (.float .f64 s) ∧ r < 18446744073709551616 ∧ s < 18446744073709551616 ∧ 0 = ordF r s ∧ Below w1.heap.size w1 w1' ∧ Below w2.heap.size w2 w2' := by
  obtain ⟨r, hr, h1, b1⟩ := h1
  obtain ⟨s, hs, h2, b2⟩ := h2
  rcases h1 with ⟨a, b, c, h1⟩ | ⟨hn, rfl⟩ <;> rcases h2 with ⟨a', b', c', h2⟩ | ⟨hn', rfl⟩
  · exact ⟨r, s, hr, hs, h1.lt, h2.lt, h1.ord h2, b1, b2⟩
  · exact absurd ⟨a, b, c⟩ hn'
  · exact absurd ⟨a', b', c'⟩ hn
  · exact ⟨_, _, hr, hs, by decide, by decide, (ordF_self _).symm, b1, b2⟩

set_option maxRecDepth 100000 in
set_option maxHeartbeats 2000000 in
theorem scoreDivides_any (a b c : Int) (w : World) : Calls Try.prog 3 #[.int .i64 a, .int .i64 b, .int .i64 c] w (Yes w) := by
  go_enter Try.func3, Try.ntmps3
  go_wp2_with (first
    | ((with_reducible show wpList _ _ _ (⟨some 13, _, _, _, _, _⟩ :: _) _ _); go_at_call 15; (with_reducible refine (refOrder_is r s 0 _ HL.out.1 HL.out.2.1 HL.out.2.2).mono ?_); rintro e w9 ⟨rfl, rfl⟩)
    | (go_at_call 16; (with_reducible refine (ratio_any a b _).mono ?_); rintro e w1 ⟨r, rfl, hr, hb⟩; have HB1 := Lib.hid hb; have HR := Lib.hid hr; clear hb hr)
    | (go_at_call 17; (with_reducible refine (refRatio_any a b _).mono ?_); rintro e w2 ⟨s, rfl, hs, hb⟩; have HB2 := Lib.hid hb; have HL := Lib.hid (And.intro HR.out.lt (And.intro hs.lt (HR.out.ord hs))); clear hb hs)
    | (go_at_call 18; (with_reducible refine (like_any a b c _).mono ?_); rintro e w3 he; have HE := Lib.hid he; obtain ⟨r3, rfl, -, -⟩ := he)
    | (go_at_call 19; (with_reducible refine (refLike_any a b c _).mono ?_); rintro e w4 he; obtain ⟨r', s', h1, h2, h3, h4, h5, h6, h7⟩ := like_ord HE.out he; cases h1; subst h2; have HB3 := Lib.hid h6; have HB4 := Lib.hid h7; have HM := Lib.hid (And.intro h3 (And.intro h4 h5)); clear h3 h4 h5 h6 h7 he HE)
    | (go_at_call 15; (first | (with_reducible refine (refOrder_is r s 0 _ HL.out.1 HL.out.2.1 HL.out.2.2).mono ?_) | (with_reducible refine (refOrder_is r3 s' 0 _ HM.out.1 HM.out.2.1 HM.out.2.2).mono ?_)); rintro e w9 ⟨rfl, rfl⟩)
    | (go_at_call 20; (with_reducible refine (awake_any _).mono ?_); rintro e w5 ⟨rfl, hb⟩; have HB5 := Lib.hid hb; clear hb))
  go_ret
  exact ⟨rfl, Below.step (Below.step (Below.step (Below.step HB1.out HB2.out) HB3.out) HB4.out) HB5.out⟩
end Go.Proofs.Ytkafeadgjpglaaa
