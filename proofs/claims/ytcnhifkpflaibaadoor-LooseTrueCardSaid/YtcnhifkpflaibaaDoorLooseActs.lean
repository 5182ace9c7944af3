/-
  Acts, as loose's laws have them: what they hold in memory; the walks of light and did.
-/
import Derived.Test.YtcnhifkpflaibaaDoorLooseLaw0
namespace Go.Proofs.YtcnhifkpflaibaaDoor
open Go.RowKit Go.Maps

structure LActV where
  z : Int
  a : Option Addr
  m : Nat
  c : Nat
  b : List UInt8
  a2 : Option Addr
  m2 : Nat
  c2 : Nat
  o : List UInt8
  n : Int
  a5 : Option Addr
  m5 : Nat
  c5 : Nat
  fs : List Int
instance : Inhabited LActV := ⟨⟨0, none, 0, 0, [], none, 0, 0, [], 0, none, 0, 0, []⟩⟩
abbrev actL (z : Int) (a : Option Addr) (m c : Nat) (a2 : Option Addr) (m2 c2 : Nat) (n : Int) (a5 : Option Addr) (m5 c5 : Nat) : Array Value := #[.int .i64 z, .slice a m c, .slice a2 m2 c2, .int .i64 n, .slice a5 m5 c5]
abbrev LActV.cells (x : LActV) : Array Value := actL x.z x.a x.m x.c x.a2 x.m2 x.c2 x.n x.a5 x.m5 x.c5
/-- What an act holds, in memory. -/
structure LActIn (w : World) (x : LActV) : Prop where
  bytes : Bytes w x.a x.m x.c x.b
  other : Bytes w x.a2 x.m2 x.c2 x.o
  fates : At1 I w x.a5 x.m5 x.c5 x.fs
  nI : x.n ≤ 9223372036854775807
  fI : ∀ z ∈ x.fs, -9223372036854775808 ≤ z ∧ z ≤ 9223372036854775807
theorem LActIn.below {w w' : World} {x : LActV} (h : LActIn w x) (hb : Below w.heap.size w w') : LActIn w' x := ⟨h.bytes.below hb, h.other.below hb, h.fates.below hb, h.nI, h.fI⟩
/-- A slice value reads as these acts. -/
structure LActsAt (w : World) (a : Option Addr) (n c : Nat) (L : List LActV) : Prop where
  len : L.length = n
  le : n ≤ c
  most : c ≤ 9223372036854775807
  mem : (n = 0 ∧ c = 0) ∨ ∃ b off, a = some ⟨b, off, none⟩ ∧ ∀ j, j < n → ∀ i v, (L.getD j default).cells[i]? = some v → w.cell? ⟨b, off + j * 5 + i, none⟩ = some v
  each : ∀ j, j < n → LActIn w (L.getD j default)
def LLight (n k : Nat) (L : List LActV) : Prop := n ≤ k ∧ ∀ j, j < n → (L.getD j default).b.length ≤ 200 ∧ (L.getD j default).o.length ≤ 200 ∧ (L.getD j default).fs.length ≤ 60
/-- What light tells. -/
def LLightIs (n k : Nat) (L : List LActV) (w : World) (e : Ending) (w' : World) : Prop := ∃ r, e = .returned (.bool r) ∧ w = w' ∧ (r = true ↔ LLight n k L)
section
variable {w w' : World} {a : Option Addr} {n c : Nat} {L : List LActV}
theorem LActsAt.nil : LActsAt w none 0 0 [] := ⟨rfl, Nat.le_refl _, by omega, .inl ⟨rfl, rfl⟩, fun j hj => by omega⟩
theorem LActsAt.below (h : LActsAt w a n c L) (hb : Below w.heap.size w w') : LActsAt w' a n c L := by
  obtain ⟨h1, h2, h3, h4, h5⟩ := h
  refine ⟨h1, h2, h3, ?_, fun j hj => (h5 j hj).below hb⟩
  rcases h4 with h4 | ⟨b, off, ha, hc⟩
  · exact .inl h4
  · exact .inr ⟨b, off, ha, fun j hj i v hv => (hb.cell (World.block_lt_of_cell? _ _ (hc j hj i v hv))).trans (hc j hj i v hv)⟩
theorem LActsAt.some_ (h : LActsAt w a n c L) (hn : 0 < n) : ∃ b off, a = some ⟨b, off, none⟩ := by
  rcases h.mem with ⟨h0, _⟩ | ⟨b, off, ha, _⟩
  · omega
  · exact ⟨b, off, ha⟩
theorem LActsAt.cell {b off : Nat} (h : LActsAt w (some ⟨b, off, none⟩) n c L) (j : Nat) (hj : j < n) {i : Nat} {v : Value} (hv : (L.getD j default).cells[i]? = some v) : w.cell? ⟨b, off + j * 5 + i, none⟩ = some v := by
  rcases h.mem with ⟨h0, _⟩ | ⟨b', off', ha, hc⟩
  · omega
  · simp only [Option.some.injEq, Addr.mk.injEq, and_true] at ha
    obtain ⟨rfl, rfl⟩ := ha
    exact hc j hj i v hv
theorem LActsAt.load {b off : Nat} (h : LActsAt w (some ⟨b, off, none⟩) n c L) (j : Nat) (hj : j < n) :
    (loadVar 30 ⟨b, off + j * 5, none⟩).run Tryd.prog w = .ok (.agg (L.getD j default).cells) w :=
  run_loadVar_mid (P := Tryd.prog) w b (off + j * 5) 30 (L.getD j default).cells.toList _ (fun i v hv => h.cell j hj (by simpa using hv)) Tryd.underlying30 rfl (by kernel_rfl)

set_option maxRecDepth 100000 in
set_option maxHeartbeats 2000000 in
theorem light_any (k : Nat) (hk : k ≤ 1000) (hA : LActsAt w a n c L) :
    Calls Tryd.prog 6 #[.slice a n c, .int .i64 (k : Int)] w (LLightIs n k L w) := by
  have HA := Lib.hid hA
  clear hA
  have hkI : (k : Int) ≤ 1000 := by omega
  have hnk : n ≤ 9223372036854775807 := by have := HA.out.le; have := HA.out.most; omega
  have hnI : (n : Int) ≤ 9223372036854775807 := by omega
  by_cases h1 : (k : Int) < (n : Int)
  · go_enter Tryd.func6, Tryd.ntmps6
    go_wp2
    go_ret
    exact ⟨false, rfl, rfl, fun h => (by cases h), fun h => by have := h.1; omega⟩
  · have HN := Lib.hid (show n ≤ k by omega)
    have H0 := Lib.hid (show ∀ j, j < 0 → (L.getD j default).b.length ≤ 200 ∧ (L.getD j default).o.length ≤ 200 ∧ (L.getD j default).fs.length ≤ 60 from fun j hj => by omega)
    go_enter Tryd.func6, Tryd.ntmps6
    go_wp2
    go_loopg [5] n (fun g v5 W => ∃ i : Nat, w = W ∧ v5 = .int .i64 i ∧ g + i = n ∧ Hid (∀ j, j < i → (L.getD j default).b.length ≤ 200 ∧ (L.getD j default).o.length ≤ 200 ∧ (L.getD j default).fs.length ≤ 60))
    case atStart => exact ⟨0, rfl, rfl, rfl, H0⟩
    case round =>
      obtain ⟨i, rfl, rfl, hg, hall⟩ := hrel
      have HG := Lib.hid hg
      have hi0 : (0 : Int) ≤ (i : Int) := by omega
      have hiI : (i : Int) ≤ (n : Int) := by omega
      by_cases hi : (i : Int) < (n : Int)
      · have hin : i < n := by omega
        obtain ⟨b, o, rfl⟩ := HA.out.some_ (by omega)
        obtain ⟨x, hx⟩ : ∃ x, x = L.getD i default := ⟨_, rfl⟩
        have c1 := HA.out.cell i hin (i := 1) (v := .slice (L.getD i default).a (L.getD i default).m (L.getD i default).c) rfl
        have c2 := HA.out.cell i hin (i := 2) (v := .slice (L.getD i default).a2 (L.getD i default).m2 (L.getD i default).c2) rfl
        have c4 := HA.out.cell i hin (i := 4) (v := .slice (L.getD i default).a5 (L.getD i default).m5 (L.getD i default).c5) rfl
        have hm := (HA.out.each i hin).bytes.1
        have hm2 := (HA.out.each i hin).other.1
        have hm5 := (HA.out.each i hin).fates.1
        rw [← hx] at c1 c2 c4 hm hm2 hm5
        have HX := Lib.hid hx
        have HM := Lib.hid hm
        have HM2 := Lib.hid hm2
        have HM5 := Lib.hid hm5
        clear hg hx hm hm2 hm5
        obtain ⟨xz, xa, xm, xc, xb, xa2, xm2, xc2, xo, xn, xa5, xm5, xc5, xf⟩ := x
        simp only at c1 c2 c4
        by_cases hl1 : (200 : Int) < (xm : Int)
        · have HNO := Lib.hid (show ¬ LLight n k L from fun h => by
            have e1 := (h.2 i hin).1
            rw [← HX.out] at e1
            have e2 := HM.out
            simp only at e1 e2
            omega)
          go_wp2
          go_ret
          exact ⟨false, rfl, rfl, fun h => (by cases h), fun h => (HNO.out h).elim⟩
        by_cases hl2 : (200 : Int) < (xm2 : Int)
        · have HNO := Lib.hid (show ¬ LLight n k L from fun h => by
            have e1 := (h.2 i hin).2.1
            rw [← HX.out] at e1
            have e2 := HM2.out
            simp only at e1 e2
            omega)
          go_wp2
          go_ret
          exact ⟨false, rfl, rfl, fun h => (by cases h), fun h => (HNO.out h).elim⟩
        by_cases hl3 : (60 : Int) < (xm5 : Int)
        · have HNO := Lib.hid (show ¬ LLight n k L from fun h => by
            have e1 := (h.2 i hin).2.2
            rw [← HX.out] at e1
            have e2 := HM5.out
            simp only at e1 e2
            omega)
          go_wp2
          go_ret
          exact ⟨false, rfl, rfl, fun h => (by cases h), fun h => (HNO.out h).elim⟩
        have HNX := Lib.hid (show ∀ j, j < i + 1 → (L.getD j default).b.length ≤ 200 ∧ (L.getD j default).o.length ≤ 200 ∧ (L.getD j default).fs.length ≤ 60 from fun j hj => by
          rcases Nat.lt_or_ge j i with h | h
          · exact hall.out j h
          · obtain rfl : j = i := by omega
            rw [← HX.out]
            have e1 := HM.out
            have e2 := HM5.out
            have e3 := HM2.out
            simp only at e1 e2 e3 ⊢
            omega)
        go_wp2
        go_roundg (gk - 1)
        case measure => have := HG.out; omega
        case rel => exact ⟨i + 1, rfl, by go_num, by have := HG.out; omega, HNX⟩
      · go_wp2
        go_ret
        exact ⟨true, rfl, rfl, fun _ => ⟨HN.out, fun j hj => hall.out j (by omega)⟩, fun _ => rfl⟩
theorem light_yes (k : Nat) (z : Int) (hz : z = (k : Int)) (hk : k ≤ 1000) (hA : LActsAt w a n c L) (h : LLight n k L) : Calls Tryd.prog 6 #[.slice a n c, .int .i64 z] w fun e w' => e = .returned (.bool true) ∧ w = w' :=
  hz ▸ (light_any k hk hA).mono fun e w' ⟨r, h1, h2, h3⟩ => ⟨by rw [h1, h3.2 h], h2⟩
theorem light_no (k : Nat) (z : Int) (hz : z = (k : Int)) (hk : k ≤ 1000) (hA : LActsAt w a n c L) (h : ¬ LLight n k L) : Calls Tryd.prog 6 #[.slice a n c, .int .i64 z] w fun e w' => e = .returned (.bool false) ∧ w = w' :=
  hz ▸ (light_any k hk hA).mono fun e w' ⟨r, h1, h2, h3⟩ => ⟨by cases r with | false => exact h1 | true => exact (h (h3.1 rfl)).elim, h2⟩
end
/-- What did does. -/
def didS (S : DS) (x : LActV) : DS :=
  if (wrap64 (x.z.tmod 6 + 6)).tmod 6 = 0 then (putL sumF S x.b).1
  else if (wrap64 (x.z.tmod 6 + 6)).tmod 6 = 1 then (putL sumF S x.b).1
  else if (wrap64 (x.z.tmod 6 + 6)).tmod 6 = 2 then (dropL S (sumF x.b)).1
  else if (wrap64 (x.z.tmod 6 + 6)).tmod 6 = 4 then crashS S x.fs
  else if (wrap64 (x.z.tmod 6 + 6)).tmod 6 = 5 then setArm S x.n
  else S
theorem few_did {S : DS} {k : Nat} (hi : Inv S) (h : Few S k) (x : LActV) : Few (didS S x) (k + 3) := by
  have h3 := h.mono (show k ≤ k + 3 by omega)
  unfold didS
  split
  · exact (put_ok hi h _).2
  split
  · exact (put_ok hi h _).2
  split
  · exact (few_drop h _).mono (by omega)
  split
  · exact few_crash h3 _
  split
  · exact few_setArm h3 _
  · exact h3
theorem box_actL (w : World) (z : Int) (a : Option Addr) (m c : Nat) (a2 : Option Addr) (m2 c2 : Nat) (n : Int) (a5 : Option Addr) (m5 c5 : Nat) (ty : TypeId) :
    (w.alloc (.cells (actL z a m c a2 m2 c2 n a5 m5 c5) ty)).cell? ⟨w.heap.size, 0, none⟩ = some (.int .i64 z) ∧ (w.alloc (.cells (actL z a m c a2 m2 c2 n a5 m5 c5) ty)).cell? ⟨w.heap.size, 1, none⟩ = some (.slice a m c) ∧
    (w.alloc (.cells (actL z a m c a2 m2 c2 n a5 m5 c5) ty)).cell? ⟨w.heap.size, 2, none⟩ = some (.slice a2 m2 c2) ∧ (w.alloc (.cells (actL z a m c a2 m2 c2 n a5 m5 c5) ty)).cell? ⟨w.heap.size, 3, none⟩ = some (.int .i64 n) ∧
    (w.alloc (.cells (actL z a m c a2 m2 c2 n a5 m5 c5) ty)).cell? ⟨w.heap.size, 4, none⟩ = some (.slice a5 m5 c5) := by
  refine ⟨?_, ?_, ?_, ?_, ?_⟩ <;> rw [World.cell?_alloc_new] <;> rfl
theorem at1_ltL {w : World} {a : Option Addr} {n c : Nat} {l : List Int} (h : At1 I w a n c l) (hn : 0 < n) : ∀ g off, a = some ⟨g, off, none⟩ → g < w.heap.size := by
  intro g off e
  subst e
  rcases h.2.2.2 with h0 | ⟨b, o, ha, hc⟩
  · omega
  · simp only [Option.some.injEq, Addr.mk.injEq, and_true] at ha
    obtain ⟨rfl, rfl⟩ := ha
    exact World.block_lt_of_cell? _ _ (hc 0 hn)
section
variable {w W : World} {F : Nat → Prop} {db : Nat} {S : DS}
/-- A disk crashes, by fates that were there when the law began. -/
theorem lo_crash2 {a : Option Addr} {n c : Nat} (R : Run w W F db S) {k : Nat} (hf : Few S k) (hk : k ≤ 1000000) {fs : List Int} (hA : At1 I w a n c fs) (hz : ∀ z ∈ fs, -9223372036854775808 ≤ z ∧ z ≤ 9223372036854775807) {S2 : DS} (hS : crashS S fs = S2) :
    Calls Tryd.prog 10 #[Pt db, .slice a n c] W fun e W' => e = .returned (.tuple #[]) ∧ ∃ F', Run w W' F' db S2 ∧ Step F W W' F' :=
  lo_crash R hf hk (hA.below R.2.2) (fun hn g off e hF => by
    have h2 := at1_ltL hA hn g off e
    have h3 := R.2.1 g hF
    omega) hz hS
set_option maxRecDepth 100000 in
set_option maxHeartbeats 2000000 in
theorem did_any (x : LActV) (R : Run w W F db S) (hT : Tables w) (hx : LActIn w x) (hb : x.b.length ≤ 200) {k : Nat} (hf : Few S k) (hk : k ≤ 900000) :
    Calls Tryd.prog 8 #[Pt db, .agg x.cells] W fun e W' => e = .returned (.tuple #[]) ∧ ∃ F', Run w W' F' db (didS S x) := by
  obtain ⟨z, a, m, c, b, a2, m2, c2, o, n, a5, m5, c5, fs⟩ := x
  obtain ⟨hx1, hx2, hx3, hx4, hx5⟩ := hx
  simp only at hx1 hx3 hx4 hx5 hb
  have hc : Below W.heap.size W (W.alloc (.cells (actL z a m c a2 m2 c2 n a5 m5 c5) 30)) := (Below.refl _ _).alloc (Nat.le_refl _) _
  obtain ⟨k0, k1, k2, k3, k4⟩ := box_actL W z a m c a2 m2 c2 n a5 m5 c5 30
  obtain ⟨W0, hW0⟩ : ∃ W0, W.alloc (.cells (actL z a m c a2 m2 c2 n a5 m5 c5) 30) = W0 := ⟨_, rfl⟩
  rw [hW0] at hc k0 k1 k2 k3 k4
  have hR := R.below hc
  have RR := Lib.hid hR
  have PU := Lib.hid (putAll_any (Safe.old hR hx1) hR hT hf hk rfl)
  have SM := Lib.hid (sum_box (hx1.below hR.2.2) (hT.below hR.2.2) (by omega) (id := sumF b) rfl)
  have DR := Lib.hid (fun W' F' (R' : Run w W' F' db S) => drop_any (sumF b) (sumF_length b) R' hf (by omega) rfl)
  have CR := Lib.hid (lo_crash2 hR hf (by omega) hx3 hx5 rfl)
  have AR := Lib.hid (lo_arm hR hx4 rfl)
  clear hc hR hx1 hx2 hx3 hx4 hx5 hb hf hk R
  by_cases h0 : (wrap64 (z.tmod 6 + 6)).tmod 6 = 0
  · have HE := Lib.hid (show didS S ⟨z, a, m, c, b, a2, m2, c2, o, n, a5, m5, c5, fs⟩ = (putL sumF S b).1 by unfold didS; rw [if_pos h0])
    have d0 : ((wrap64 (z.tmod 6 + 6)).tmod 6 == 0) = true := beq_iff_eq.2 h0
    clear h0
    rw [HE.out]
    go_enter Tryd.func8, Tryd.ntmps8
    go_wp2_with (go_at_call 12; (with_reducible refine PU.out.mono ?_); rintro e w5 ⟨_, _, _, F5, rfl, _, hr, _, _⟩)
    exact bodyPost_end (results_none rfl _ _ _) rfl ⟨rfl, F5, hr⟩
  by_cases h1 : (wrap64 (z.tmod 6 + 6)).tmod 6 = 1
  · have HE := Lib.hid (show didS S ⟨z, a, m, c, b, a2, m2, c2, o, n, a5, m5, c5, fs⟩ = (putL sumF S b).1 by unfold didS; rw [if_neg h0, if_pos h1])
    have d0 : ((wrap64 (z.tmod 6 + 6)).tmod 6 == 0) = false := beq_eq_false_iff_ne.2 h0
    have d1 : ((wrap64 (z.tmod 6 + 6)).tmod 6 == 1) = true := beq_iff_eq.2 h1
    clear h0 h1
    rw [HE.out]
    go_enter Tryd.func8, Tryd.ntmps8
    go_wp2_with (go_at_call 12; (with_reducible refine PU.out.mono ?_); rintro e w5 ⟨_, _, _, F5, rfl, _, hr, _, _⟩)
    exact bodyPost_end (results_none rfl _ _ _) rfl ⟨rfl, F5, hr⟩
  by_cases h2 : (wrap64 (z.tmod 6 + 6)).tmod 6 = 2
  · have HE := Lib.hid (show didS S ⟨z, a, m, c, b, a2, m2, c2, o, n, a5, m5, c5, fs⟩ = (dropL S (sumF b)).1 by unfold didS; rw [if_neg h0, if_neg h1, if_pos h2])
    have d0 : ((wrap64 (z.tmod 6 + 6)).tmod 6 == 0) = false := beq_eq_false_iff_ne.2 h0
    have d1 : ((wrap64 (z.tmod 6 + 6)).tmod 6 == 1) = false := beq_eq_false_iff_ne.2 h1
    have d2 : ((wrap64 (z.tmod 6 + 6)).tmod 6 == 2) = true := beq_iff_eq.2 h2
    clear h0 h1 h2
    rw [HE.out]
    go_enter Tryd.func8, Tryd.ntmps8
    go_wp2_with (first | (go_at_call 13; (refine SM.out.mono ?_); rintro e w4 ⟨rfl, hb4⟩; have R4 := Lib.hid (RR.out.below hb4); clear hb4) | (go_at_call 21; (with_reducible refine (DR.out _ _ R4.out).mono ?_); rintro e w5 ⟨rfl, F5, hr, _⟩))
    exact bodyPost_end (results_none rfl _ _ _) rfl ⟨rfl, F5, hr⟩
  by_cases h4 : (wrap64 (z.tmod 6 + 6)).tmod 6 = 4
  · have HE := Lib.hid (show didS S ⟨z, a, m, c, b, a2, m2, c2, o, n, a5, m5, c5, fs⟩ = crashS S fs by unfold didS; rw [if_neg h0, if_neg h1, if_neg h2, if_pos h4])
    have d0 : ((wrap64 (z.tmod 6 + 6)).tmod 6 == 0) = false := beq_eq_false_iff_ne.2 h0
    have d1 : ((wrap64 (z.tmod 6 + 6)).tmod 6 == 1) = false := beq_eq_false_iff_ne.2 h1
    have d2 : ((wrap64 (z.tmod 6 + 6)).tmod 6 == 2) = false := beq_eq_false_iff_ne.2 h2
    have d4 : ((wrap64 (z.tmod 6 + 6)).tmod 6 == 4) = true := beq_iff_eq.2 h4
    clear h0 h1 h2 h4
    rw [HE.out]
    go_enter Tryd.func8, Tryd.ntmps8
    go_wp2_with (go_at_call 10; (with_reducible refine CR.out.mono ?_); rintro e w5 ⟨rfl, F5, hr, _⟩)
    exact bodyPost_end (results_none rfl _ _ _) rfl ⟨rfl, F5, hr⟩
  by_cases h5 : (wrap64 (z.tmod 6 + 6)).tmod 6 = 5
  · have HE := Lib.hid (show didS S ⟨z, a, m, c, b, a2, m2, c2, o, n, a5, m5, c5, fs⟩ = setArm S n by unfold didS; rw [if_neg h0, if_neg h1, if_neg h2, if_neg h4, if_pos h5])
    have d0 : ((wrap64 (z.tmod 6 + 6)).tmod 6 == 0) = false := beq_eq_false_iff_ne.2 h0
    have d1 : ((wrap64 (z.tmod 6 + 6)).tmod 6 == 1) = false := beq_eq_false_iff_ne.2 h1
    have d2 : ((wrap64 (z.tmod 6 + 6)).tmod 6 == 2) = false := beq_eq_false_iff_ne.2 h2
    have d4 : ((wrap64 (z.tmod 6 + 6)).tmod 6 == 4) = false := beq_eq_false_iff_ne.2 h4
    have d5 : ((wrap64 (z.tmod 6 + 6)).tmod 6 == 5) = true := beq_iff_eq.2 h5
    clear h0 h1 h2 h4 h5
    rw [HE.out]
    go_enter Tryd.func8, Tryd.ntmps8
    go_wp2_with (go_at_call 11; (with_reducible refine AR.out.mono ?_); rintro e w5 ⟨rfl, hr, _⟩)
    exact bodyPost_end (results_none rfl _ _ _) rfl ⟨rfl, F, hr⟩
  have HE := Lib.hid (show didS S ⟨z, a, m, c, b, a2, m2, c2, o, n, a5, m5, c5, fs⟩ = S by unfold didS; rw [if_neg h0, if_neg h1, if_neg h2, if_neg h4, if_neg h5])
  have d0 : ((wrap64 (z.tmod 6 + 6)).tmod 6 == 0) = false := beq_eq_false_iff_ne.2 h0
  have d1 : ((wrap64 (z.tmod 6 + 6)).tmod 6 == 1) = false := beq_eq_false_iff_ne.2 h1
  have d2 : ((wrap64 (z.tmod 6 + 6)).tmod 6 == 2) = false := beq_eq_false_iff_ne.2 h2
  have d4 : ((wrap64 (z.tmod 6 + 6)).tmod 6 == 4) = false := beq_eq_false_iff_ne.2 h4
  have d5 : ((wrap64 (z.tmod 6 + 6)).tmod 6 == 5) = false := beq_eq_false_iff_ne.2 h5
  clear h0 h1 h2 h4 h5
  rw [HE.out]
  go_enter Tryd.func8, Tryd.ntmps8
  go_wp2
  exact bodyPost_end (results_none rfl _ _ _) rfl ⟨rfl, F, RR.out⟩
end
#print axioms did_any
#print axioms light_any
end Go.Proofs.YtcnhifkpflaibaaDoor
