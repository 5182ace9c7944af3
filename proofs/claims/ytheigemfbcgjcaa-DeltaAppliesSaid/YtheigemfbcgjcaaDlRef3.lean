/-
  The walk of the document's Number, for delta; a piece that is added.
-/
import Derived.Test.YtheigemfbcgjcaaBytes
import Derived.Test.YtheigemfbcgjcaaMath
import Derived.Test.YtheigemfbcgjcaaDlMakeM
namespace Go.Proofs.Ytheigemfbcgjcaa
open Go.RowKit

theorem byte_more_ref' (g : Nat) : 128 + (g : Int) % 128 = ((UInt8.ofNat (g % 128 + 128)).toNat : Int) := by
  have : (UInt8.ofNat (g % 128 + 128)).toNat = g % 128 + 128 := by simp; omega
  rw [this]; omega

set_option maxRecDepth 100000 in
set_option maxHeartbeats 400000 in
theorem refNumber_any (n : Nat) (w : World) (hn : n < 9223372036854775808) :
    Calls Try.prog 21 #[.int .i64 n] w (Made w (numF n)) := by
  go_enter Try.func21, Try.ntmps21
  go_wp2
  go_loopg [0, 3] n (fun g v0 v3 wr => ∃ done : List UInt8, g ≤ n ∧ v0 = .int .i64 (g : Int) ∧ Hid (numF n = done ++ numF g ∧ done.length + (numF g).length ≤ 9) ∧ Own wr w.heap.size v3 done ∧ Below w.heap.size w wr)
  case atStart => exact ⟨[], Nat.le_refl _, rfl, ⟨rfl, by have := numF_length_le9 n (by omega); simpa using this⟩, Own.nil _ _, Below.refl _ _⟩
  case round =>
    obtain ⟨done, hg, rfl, hd, hown, hbel⟩ := hrel
    have hB := Lib.hid (byte_more_ref' gk)
    have hsz := hbel.size
    by_cases h128 : 128 ≤ gk
    · go_wp2_with (at_builtin; go_must (refine app_bytes rfl (.tmp 6) (.tmp 11) rfl w.heap.size _ done rfl (hown.alloc _) (some ⟨wr.heap.size, 0, none⟩) 1 1 [UInt8.ofNat (gk % 128 + 128)] rfl (by rw [hB.out]; exact bytes_one _ _) (by have := hd.out.2; omega) (by simp; omega) ?_); intro v' w1 hown1 hgr1)
      go_roundg (gk / 128)
      case measure => omega
      case rel =>
        have hd := hd.out
        have hn7 := numF_ge gk (by omega)
        refine ⟨done ++ [UInt8.ofNat (gk % 128 + 128)], by omega, by go_num, ⟨by rw [hd.1, hn7]; simp, ?_⟩, hown1, ((hbel.alloc hsz _).grown hgr1 (by simp; omega) hown.grown)⟩
        rw [hn7] at hd
        simp at hd ⊢
        omega
    · have hlt : gk < 128 := by omega
      have hL := Lib.hid (byte_last gk hlt)
      go_wp2_with (at_builtin; go_must (refine app_bytes rfl (.tmp 15) (.tmp 18) rfl w.heap.size _ done rfl (hown.alloc _) (some ⟨wr.heap.size, 0, none⟩) 1 1 [UInt8.ofNat gk] rfl (by rw [hL.out]; exact bytes_one _ _) (by have := hd.out.2; omega) (by simp; omega) ?_); intro v' w1 hown1 hgr1)
      go_ret
      refine Made.of ?_ ((hbel.alloc hsz _).grown hgr1 (by simp; omega) hown.grown)
      rw [hd.out.1, numF_lt _ hlt]
      exact hown1

set_option maxRecDepth 100000 in
set_option maxHeartbeats 1000000 in
/-- A piece that is added: nothing of nothing. -/
theorem refAdded_any (a : Option Addr) (n c : Nat) (D : List UInt8) (w : World) (h : Bytes w a n c D) (hn : n ≤ 1000000) :
    Calls Try.prog 23 #[.slice a n c] w (Made w (if D.length = 0 then [] else numF (2 * D.length) ++ D)) := by
  have HD := Lib.hid h
  have hl := h.1
  by_cases h0 : n = 0
  · have hz : ((n : Int) == 0) = true := by rw [beq_iff_eq]; omega
    rw [if_pos (by omega)]
    clear h hl
    go_enter Try.func23, Try.ntmps23
    go_wp2
    go_ret
    exact ⟨none, 0, 0, rfl, Own.nil _ _, Below.refl _ _⟩
  · have hz : ((n : Int) == 0) = false := by rw [beq_eq_false_iff_ne]; omega
    rw [if_neg (by omega)]
    obtain ⟨m, hm⟩ : ∃ m, 2 * n = m := ⟨_, rfl⟩
    rw [show 2 * D.length = m by omega]
    have W1 : IntKind.i64.wrap (2 * (n : Int)) = (m : Int) := by rw [IntWalk.i64_in _ (by omega)]; omega
    have HR := Lib.hid (refNumber_any m w (by omega))
    have HM : Hid (m ≤ 2000000 ∧ n ≤ 1000000) := Lib.hid ⟨by omega, hn⟩
    clear h hl hm h0
    go_enter Try.func23, Try.ntmps23
    go_wp2_with (first
      | (go_at_call 21; (with_reducible refine HR.out.mono ?_); rintro e w1 ⟨a1, n1, c1, rfl, ho, hb⟩; have HO := Lib.hid ho; have HB1 := Lib.hid hb; clear ho hb)
      | (at_builtin; go_must (refine app_bytes rfl _ _ rfl w.heap.size _ (numF m) rfl HO.out a n c D rfl (HD.out.below HB1.out) (by have h1 := numF_length_le9 m (by have := HM.out; omega); have h2 := HM.out; omega) HB1.out.size ?_); intro v2 w2 ho hg; obtain ⟨a2, n2, c2, rfl, _⟩ := ho.bytes; have HO2 := Lib.hid ho; have HB2 := Lib.hid (HB1.out.grown hg HB1.out.size (fun k hk => (World.ownsRow.lt HO.out k hk).1)); clear ho hg))
    go_ret
    exact ⟨a2, n2, c2, rfl, HO2.out, HB2.out⟩
end Go.Proofs.Ytheigemfbcgjcaa
