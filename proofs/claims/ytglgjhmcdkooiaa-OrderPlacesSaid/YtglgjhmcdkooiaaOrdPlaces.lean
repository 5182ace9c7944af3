/-
  The law of the places of keys, walked.
-/
import Derived.Test.YtglgjhmcdkooiaaOrdAwake
import Derived.Test.YtglgjhmcdkooiaaSortKeys
import Derived.Test.YtglgjhmcdkooiaaRefPlaces
import Derived.Test.YtglgjhmcdkooiaaKeysCopy
namespace Go.Proofs.Ytglgjhmcdkooiaa
open Go.RowKit

set_option maxRecDepth 100000 in
set_option maxHeartbeats 2000000 in
theorem ordPlaces_any (a : Option Addr) (n c : Nat) (K : List KeyV) (w : World) (hK : KeysAt w a n c K) :
    Calls Try.prog 3 #[.slice a n c] w fun e w' => e = .returned (.bool true) ∧ Below w.heap.size w w' := by
  have HK := Lib.hid hK
  have hn0 : (0 : Int) ≤ (n : Int) := by omega
  by_cases hn : (n : Int) ≤ 300
  · have HN := Lib.hid (show n ≤ 1000000000 by omega)
    clear hK
    go_enter Try.func3, Try.ntmps3
    go_wp2_with (first
      | (at_builtin; go_must (refine wl_copyK rfl (.tmp 6) (.tmp 7) rfl a n c K rfl rfl HK.out HN.out ?_); intro a1 c1 w1 hk1 hb1; have H1 := Lib.hid hk1; have HB1 := Lib.hid hb1; clear hk1 hb1)
      | (go_at_call 5; (with_reducible refine (sortKeys_any a1 n c1 K _ H1.out HN.out).mono ?_); rintro e w2 ⟨a2, c2, L, rfl, hown, hp, hu, hb2⟩; have HO2 := Lib.hid hown; have HP := Lib.hid hp; have HU := Lib.hid hu; have HB2 := Lib.hid (HB1.out.trans (hb2.mono HB1.out.size)); clear hown hp hu hb2)
      | (go_at_call 6; (with_reducible refine (refKeysSort_any a n c K _ (HK.out.below HB2.out) HN.out).mono ?_); rintro e w3 ⟨a3, c3, M, rfl, hown, hp, hu, hb3⟩; have HO3 := Lib.hid hown; have HQ := Lib.hid (show L = M from places_sorted HU.out hu (HP.out.trans hp.symm)); have HO23 := Lib.hid (HO2.out.at1.below hb3); have HB3 := Lib.hid (HB2.out.trans (hb3.mono HB2.out.size)); clear hown hp hu hb3)
      | (go_at_call 4; (with_reducible refine (ints_any a2 n c2 L a3 n c3 M _ HO23.out HO3.out.at1 HN.out).mono ?_); rintro e w4 ⟨rfl, hb4⟩; have HB4 := Lib.hid (HB3.out.trans (hb4.mono HB3.out.size)); clear hb4; rw [decide_eq_true HQ.out])
      | (go_at_call 7; (with_reducible refine (awake_any _).mono ?_); rintro e w5 ⟨rfl, hb5⟩; have HB5 := Lib.hid (HB4.out.trans (hb5.mono HB4.out.size)); clear hb5))
    go_ret
    exact ⟨rfl, HB5.out⟩
  · clear hK
    go_enter Try.func3, Try.ntmps3
    go_wp2
    go_ret
    exact ⟨rfl, Below.refl _ _⟩
#print axioms ordPlaces_any
end Go.Proofs.Ytglgjhmcdkooiaa
