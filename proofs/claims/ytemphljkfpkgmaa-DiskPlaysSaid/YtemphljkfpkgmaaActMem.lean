/-
  Acts, as the laws have them: what they hold in memory; the walk of light.
-/
import Derived.Test.YtemphljkfpkgmaaDiskNilDo
import Derived.Test.YtemphljkfpkgmaaFate
namespace Go.Proofs.Ytemphljkfpkgmaa
open Go.RowKit Go.Maps

structure ActV where
  z : Int
  s : ByteArray
  t : ByteArray
  a : Option Addr
  m : Nat
  c : Nat
  b : List UInt8
  n : Int
  a5 : Option Addr
  m5 : Nat
  c5 : Nat
  fs : List Int
instance : Inhabited ActV := ⟨⟨0, ⟨#[]⟩, ⟨#[]⟩, none, 0, 0, [], 0, none, 0, 0, []⟩⟩
abbrev ActV.cells (x : ActV) : Array Value := actC x.z x.s x.t x.a x.m x.c x.n x.a5 x.m5 x.c5
/-- What an act holds, in memory. -/
structure ActIn (w : World) (x : ActV) : Prop where
  bytes : Bytes w x.a x.m x.c x.b
  fates : At1 I w x.a5 x.m5 x.c5 x.fs
  nI : x.n ≤ 9223372036854775807
  fI : ∀ z ∈ x.fs, -9223372036854775808 ≤ z ∧ z ≤ 9223372036854775807
theorem ActIn.below {w w' : World} {x : ActV} (h : ActIn w x) (hb : Below w.heap.size w w') : ActIn w' x := ⟨h.bytes.below hb, h.fates.below hb, h.nI, h.fI⟩
/-- A slice value reads as these acts. -/
structure ActsAt (w : World) (a : Option Addr) (n c : Nat) (L : List ActV) : Prop where
  len : L.length = n
  le : n ≤ c
  most : c ≤ 9223372036854775807
  mem : (n = 0 ∧ c = 0) ∨ ∃ b off, a = some ⟨b, off, none⟩ ∧ ∀ j, j < n → ∀ i v, (L.getD j default).cells[i]? = some v → w.cell? ⟨b, off + j * 6 + i, none⟩ = some v
  each : ∀ j, j < n → ActIn w (L.getD j default)
def Light (n k : Nat) (L : List ActV) : Prop := n ≤ k ∧ ∀ j, j < n → (L.getD j default).b.length ≤ 300 ∧ (L.getD j default).fs.length ≤ 100
/-- What light tells. -/
def LightIs (n k : Nat) (L : List ActV) (w : World) (e : Ending) (w' : World) : Prop := ∃ r, e = .returned (.bool r) ∧ w = w' ∧ (r = true ↔ Light n k L)
section
variable {w w' : World} {a : Option Addr} {n c : Nat} {L : List ActV}
theorem ActsAt.nil : ActsAt w none 0 0 [] := ⟨rfl, Nat.le_refl _, by omega, .inl ⟨rfl, rfl⟩, fun j hj => by omega⟩
theorem ActsAt.below (h : ActsAt w a n c L) (hb : Below w.heap.size w w') : ActsAt w' a n c L := by
  obtain ⟨h1, h2, h3, h4, h5⟩ := h
  refine ⟨h1, h2, h3, ?_, fun j hj => (h5 j hj).below hb⟩
  rcases h4 with h4 | ⟨b, off, ha, hc⟩
  · exact .inl h4
  · exact .inr ⟨b, off, ha, fun j hj i v hv => (hb.cell (World.block_lt_of_cell? _ _ (hc j hj i v hv))).trans (hc j hj i v hv)⟩
theorem ActsAt.some_ (h : ActsAt w a n c L) (hn : 0 < n) : ∃ b off, a = some ⟨b, off, none⟩ := by
  rcases h.mem with ⟨h0, _⟩ | ⟨b, off, ha, _⟩
  · omega
  · exact ⟨b, off, ha⟩
theorem ActsAt.cell {b off : Nat} (h : ActsAt w (some ⟨b, off, none⟩) n c L) (j : Nat) (hj : j < n) {i : Nat} {v : Value} (hv : (L.getD j default).cells[i]? = some v) : w.cell? ⟨b, off + j * 6 + i, none⟩ = some v := by
  rcases h.mem with ⟨h0, _⟩ | ⟨b', off', ha, hc⟩
  · omega
  · simp only [Option.some.injEq, Addr.mk.injEq, and_true] at ha
    obtain ⟨rfl, rfl⟩ := ha
    exact hc j hj i v hv
theorem ActsAt.load {b off : Nat} (h : ActsAt w (some ⟨b, off, none⟩) n c L) (j : Nat) (hj : j < n) :
    (loadVar 37 ⟨b, off + j * 6, none⟩).run Try.prog w = .ok (.agg (L.getD j default).cells) w :=
  run_loadVar_mid (P := Try.prog) w b (off + j * 6) 37 (L.getD j default).cells.toList _ (fun i v hv => h.cell j hj (by simpa using hv)) Try.underlying37 rfl (by kernel_rfl)

set_option maxRecDepth 100000 in
set_option maxHeartbeats 2000000 in
theorem light_any (k : Nat) (hk : k ≤ 1000) (hA : ActsAt w a n c L) :
    Calls Try.prog 4 #[.slice a n c, .int .i64 (k : Int)] w (LightIs n k L w) := by
  have HA := Lib.hid hA
  clear hA
  have hkI : (k : Int) ≤ 1000 := by omega
  have hnk : n ≤ 9223372036854775807 := by have := HA.out.le; have := HA.out.most; omega
  have hnI : (n : Int) ≤ 9223372036854775807 := by omega
  by_cases h1 : (k : Int) < (n : Int)
  · go_enter Try.func4, Try.ntmps4
    go_wp2
    go_ret
    exact ⟨false, rfl, rfl, fun h => (by cases h), fun h => by have := h.1; omega⟩
  · have HN := Lib.hid (show n ≤ k by omega)
    have H0 := Lib.hid (show ∀ j, j < 0 → (L.getD j default).b.length ≤ 300 ∧ (L.getD j default).fs.length ≤ 100 from fun j hj => by omega)
    go_enter Try.func4, Try.ntmps4
    go_wp2
    go_loopg [5] n (fun g v5 W => ∃ i : Nat, w = W ∧ v5 = .int .i64 i ∧ g + i = n ∧ Hid (∀ j, j < i → (L.getD j default).b.length ≤ 300 ∧ (L.getD j default).fs.length ≤ 100))
    case atStart => exact ⟨0, rfl, rfl, rfl, H0⟩
    case round =>
      obtain ⟨i, rfl, rfl, hg, hall⟩ := hrel
      have HG := Lib.hid hg
      have hi0 : (0 : Int) ≤ (i : Int) := by omega
      have hiI : (i : Int) ≤ (n : Int) := by omega
      by_cases hi : (i : Int) < (n : Int)
      · have hin : i < n := by omega
        obtain ⟨b, o, rfl⟩ := HA.out.some_ (by omega)
        obtain ⟨x, hx⟩ : ∃ x, x = L.getD i default := ⟨_, rfl⟩
        have c3 := HA.out.cell i hin (i := 3) (v := .slice (L.getD i default).a (L.getD i default).m (L.getD i default).c) rfl
        have c5 := HA.out.cell i hin (i := 5) (v := .slice (L.getD i default).a5 (L.getD i default).m5 (L.getD i default).c5) rfl
        have hm := (HA.out.each i hin).bytes.1
        have hm5 := (HA.out.each i hin).fates.1
        rw [← hx] at c3 c5 hm hm5
        have HX := Lib.hid hx
        have HM := Lib.hid hm
        have HM5 := Lib.hid hm5
        clear hg hx hm hm5
        obtain ⟨xz, xs, xt, xa, xm, xc, xb, xn, xa5, xm5, xc5, xf⟩ := x
        simp only at c3 c5
        by_cases hl1 : (300 : Int) < (xm : Int)
        · have HNO := Lib.hid (show ¬ Light n k L from fun h => by
            have e1 := (h.2 i hin).1
            rw [← HX.out] at e1
            have e2 := HM.out
            simp only at e1 e2
            omega)
          go_wp2
          go_ret
          exact ⟨false, rfl, rfl, fun h => (by cases h), fun h => (HNO.out h).elim⟩
        · by_cases hl2 : (100 : Int) < (xm5 : Int)
          · have HNO := Lib.hid (show ¬ Light n k L from fun h => by
              have e1 := (h.2 i hin).2
              rw [← HX.out] at e1
              have e2 := HM5.out
              simp only at e1 e2
              omega)
            go_wp2
            go_ret
            exact ⟨false, rfl, rfl, fun h => (by cases h), fun h => (HNO.out h).elim⟩
          · have HNX := Lib.hid (show ∀ j, j < i + 1 → (L.getD j default).b.length ≤ 300 ∧ (L.getD j default).fs.length ≤ 100 from fun j hj => by
              rcases Nat.lt_or_ge j i with h | h
              · exact hall.out j h
              · obtain rfl : j = i := by omega
                rw [← HX.out]
                have e1 := HM.out
                have e2 := HM5.out
                simp only at e1 e2 ⊢
                omega)
            go_wp2
            go_roundg (gk - 1)
            case measure => have := HG.out; omega
            case rel => exact ⟨i + 1, rfl, by go_num, by have := HG.out; omega, HNX⟩
      · go_wp2
        go_ret
        exact ⟨true, rfl, rfl, fun _ => ⟨HN.out, fun j hj => hall.out j (by omega)⟩, fun _ => rfl⟩
theorem light_yes (k : Nat) (z : Int) (hz : z = (k : Int)) (hk : k ≤ 1000) (hA : ActsAt w a n c L) (h : Light n k L) : Calls Try.prog 4 #[.slice a n c, .int .i64 z] w fun e w' => e = .returned (.bool true) ∧ w = w' :=
  hz ▸ (light_any k hk hA).mono fun e w' ⟨r, h1, h2, h3⟩ => ⟨by rw [h1, h3.2 h], h2⟩
theorem light_no (k : Nat) (z : Int) (hz : z = (k : Int)) (hk : k ≤ 1000) (hA : ActsAt w a n c L) (h : ¬ Light n k L) : Calls Try.prog 4 #[.slice a n c, .int .i64 z] w fun e w' => e = .returned (.bool false) ∧ w = w' :=
  hz ▸ (light_any k hk hA).mono fun e w' ⟨r, h1, h2, h3⟩ => ⟨by cases r with | false => exact h1 | true => exact (h (h3.1 rfl)).elim, h2⟩
end
#print axioms light_any
end Go.Proofs.Ytemphljkfpkgmaa
