/-
  The walks of put's closure and of inTurn.
-/
import Derived.Test.YtcnhifkpflaibaaDoorLooseList
namespace Go.Proofs.YtcnhifkpflaibaaDoor
open Go.RowKit Go.Maps

section
variable {w W W' : World} {F F' : Nat → Prop} {db : Nat} {S S' : DS} {g3 g4 : Nat} {a : Option Addr} {n c : Nat} {b : List UInt8}
theorem keep_cell {g o : Nat} {v : Value} (h : W.cell? ⟨g, o, none⟩ = some v) (hF : ¬ F g) (hs : Step F W W' F') : W'.cell? ⟨g, o, none⟩ = some v := by
  have hl := World.block_lt_of_cell? _ _ h
  have e := hs.chg.block g hl hF
  simp only [World.cell?] at h ⊢
  rw [e]
  exact h
theorem keep_not {g : Nat} (hl : g < W.heap.size) (hF : ¬ F g) (hs : Step F W W' F') : ¬ F' g := fun h => (hs.more g h).elim hF (fun h2 => by omega)
/-- What put's closure leans on: the disk, what it has captured, the bytes. -/
structure Env (w W : World) (F : Nat → Prop) (db : Nat) (S : DS) (g3 g4 : Nat) (a : Option Addr) (n c : Nat) (b : List UInt8) : Prop where
  run : Run w W F db S
  c3 : W.cell? ⟨g3, 0, none⟩ = some (Pt db)
  c4 : W.cell? ⟨g4, 0, none⟩ = some (.slice a n c)
  n3 : ¬ F g3
  n4 : ¬ F g4
  safe : Safe F W a n c b
theorem Env.step (h : Env w W F db S g3 g4 a n c b) (hs : Step F W W' F') (hr : Run w W' F' db S') : Env w W' F' db S' g3 g4 a n c b :=
  ⟨hr, keep_cell h.c3 h.n3 hs, keep_cell h.c4 h.n4 hs, keep_not (World.block_lt_of_cell? _ _ h.c3) h.n3 hs, keep_not (World.block_lt_of_cell? _ _ h.c4) h.n4 hs, h.safe.step hs⟩
theorem Env.below (h : Env w W F db S g3 g4 a n c b) (hb : Below W.heap.size W W') : Env w W' F db S g3 g4 a n c b := h.step (Step.of_below hb) (h.run.below hb)

set_option maxRecDepth 100000 in
set_option maxHeartbeats 400000 in
theorem write_any9 (E : Env w W F db S g3 g4 a n c b) {k : Nat} (hf : Few S k) (hk : k ≤ 1000000) (s : ByteArray) {r : DS × Nat} (hr : appendS S s.data.toList b = r) :
    Calls Tryd.prog 47 #[.string s, Pt g3, Pt g4] W (ActEnd w W F db r) := by
  have A := Lib.hid (lo_app E.run hf hk s E.safe hr)
  have h3 := E.c3
  have h4 := E.c4
  clear E hf hk hr
  go_enter Tryd.func47, Tryd.ntmps47
  go_wp2_with (go_at_call 16; (with_reducible refine A.out.mono ?_); rintro e w5 ⟨rfl, hx⟩; have HX := Lib.hid hx; clear hx)
  go_ret
  exact ⟨rfl, HX.out⟩

/-- The acts that put hands on. -/
inductive K3 where
  | app | syn | rem
def valK (db g3 g4 : Nat) : K3 → Value
  | .app => .func (.func 47) #[] #[Pt g3, Pt g4]
  | .syn => .func (.func 49) #[Pt db] #[]
  | .rem => .func (.func 43) #[Pt db] #[]
def actK3 (s : Nm) (b : List UInt8) : K3 → DS → DS × Nat
  | .app => appA s b
  | .syn => synA s
  | .rem => remA s
theorem actK3_in (s : Nm) (b : List UInt8) (k : K3) : actK3 s b k ∈ [remA s, appA s b, synA s] := by cases k <;> simp [actK3]
theorem chain_next {ks : List K3} {i : Nat} (hi : i < ks.length) (S : DS) (f : K3 → DS → DS × Nat) : chain S ((ks.drop i).map f) = if (f (ks.getD i .syn) S).2 ≠ 0 then f (ks.getD i .syn) S else chain (f (ks.getD i .syn) S).1 ((ks.drop (i + 1)).map f) := by
  have e : ks.getD i .syn = ks[i] := by simp [List.getD, hi]
  rw [List.drop_eq_getElem_cons hi, e, List.map_cons, chain]

set_option maxRecDepth 100000 in
set_option maxHeartbeats 4000000 in
theorem inTurn_any (ks : List K3) (s : ByteArray) (ga : Nat) (E : Env w W F db S g3 g4 a n c b) (hA : ∀ j, j < ks.length → W.cell? ⟨ga, j, none⟩ = some (valK db g3 g4 (ks.getD j .syn))) (hga : ¬ F ga) {k : Nat} (hf : Few S k) (hk : k + ks.length ≤ 1000000)
    {N : Nat} (hN : N = ks.length) {r : DS × Nat} (hr : chain S (ks.map (actK3 s.data.toList b)) = r) :
    Calls Tryd.prog 48 #[.string s, .slice (some ⟨ga, 0, none⟩) N N] W (ActEnd w W F db r) := by
  subst hN
  have HE := Lib.hid E
  have HA := Lib.hid hA
  have HNA := Lib.hid hga
  have HF := Lib.hid hf
  have HK := Lib.hid hk
  have HR := Lib.hid hr
  have hlI : (ks.length : Int) ≤ 1000000 := by omega
  clear E hA hga hf hk hr
  go_enter Tryd.func48, Tryd.ntmps48
  go_wp2
  go_loopg [6, 7, 10] ks.length (fun g v6 v7 v10 W2 => ∃ (i : Nat) (F2 : Nat → Prop) (S2 : DS), g + i = ks.length ∧ v10 = .int .i64 i ∧ Hid (Env w W2 F2 db S2 g3 g4 a n c b) ∧ Hid (∀ j, j < ks.length → W2.cell? ⟨ga, j, none⟩ = some (valK db g3 g4 (ks.getD j .syn))) ∧ Hid (¬ F2 ga) ∧ Hid (Few S2 (k + i)) ∧ Hid (Step F W W2 F2) ∧ Hid (chain S2 ((ks.drop i).map (actK3 s.data.toList b)) = r))
  case atStart => exact ⟨0, F, S, rfl, rfl, HE, HA, HNA, HF, Lib.hid Step.refl, Lib.hid (by simpa using HR.out)⟩
  case round =>
    obtain ⟨i, F2, S2, hg, rfl, HE2, HA2, HN2, HF2, HS2, HC2⟩ := hrel
    have HG := Lib.hid hg
    have hi0 : (0 : Int) ≤ (i : Int) := by omega
    have hiI : (i : Int) ≤ (ks.length : Int) := by omega
    by_cases hi : (i : Int) < (ks.length : Int)
    · have hin : i < ks.length := by omega
      have HI := Lib.hid hin
      have k1 := HA2.out i hin
      have HX := Lib.hid ((chain_next hin S2 (actK3 s.data.toList b)).symm.trans HC2.out)
      obtain ⟨x, hx⟩ : ∃ x, ks.getD i .syn = x := ⟨_, rfl⟩
      rw [hx] at k1 HX
      obtain ⟨u, hu⟩ : ∃ u, actK3 s.data.toList b x S2 = u := ⟨_, rfl⟩
      have HFU := Lib.hid (hu ▸ few_act HE2.out.run.1.1 HF2.out s.data.toList b _ (actK3_in s.data.toList b x) : Few u.1 (k + i + 1))
      have HW := Lib.hid (fun (h : appendS S2 s.data.toList b = u) => write_any9 HE2.out HF2.out (by have := HK.out; have := HI.out; omega) s h)
      have HY := Lib.hid (fun (h : syncS S2 s.data.toList = u) => lo_sync HE2.out.run HF2.out (by have := HK.out; have := HI.out; omega) s h)
      have HM := Lib.hid (fun (h : turnS S2 s.data.toList s.data.toList [] = u) => lo_rem HE2.out.run HF2.out (by have := HK.out; have := HI.out; omega) s h)
      rw [hu] at HX
      obtain ⟨T, z⟩ := u
      simp only at HX HW HY HM HFU
      clear hg hx hin
      have fin : ∀ (W3 : World) (F3 : Nat → Prop), Run w W3 F3 db T → Step F2 wr W3 F3 → Hid (Env w W3 F3 db T g3 g4 a n c b) ∧ Hid (∀ j, j < ks.length → W3.cell? ⟨ga, j, none⟩ = some (valK db g3 g4 (ks.getD j .syn))) ∧ Hid (¬ F3 ga) ∧ Hid (Step F W W3 F3) := fun W3 F3 hr3 hs3 =>
        ⟨Lib.hid (HE2.out.step hs3 hr3), Lib.hid (fun j hj => keep_cell (HA2.out j hj) HN2.out hs3), Lib.hid (keep_not (World.block_lt_of_cell? _ _ (HA2.out i HI.out)) HN2.out hs3), Lib.hid (HS2.out.trans hs3)⟩
      have FIN := Lib.hid fin
      clear fin
      by_cases hz : z = 0
      · subst hz
        have HC3 := Lib.hid (show chain T ((ks.drop (i + 1)).map (actK3 s.data.toList b)) = r by have := HX.out; rwa [if_neg (fun h => h rfl)] at this)
        cases x with
        | app =>
          have P := Lib.hid (HW.out hu)
          unfold valK at k1
          clear hu HW HY HM
          go_wp2_with (go_at_call 47; (with_reducible refine P.out.mono ?_); rintro e w3 ⟨rfl, F3, hr3, hs3⟩; obtain ⟨E3, A3, N3, S3⟩ := FIN.out w3 F3 hr3 hs3; clear hr3 hs3)
          go_roundg (gk - 1)
          case measure => have := HG.out; omega
          case rel => exact ⟨i + 1, F3, T, by have := HG.out; omega, by go_num, E3, A3, N3, HFU, S3, HC3⟩
        | syn =>
          have P := Lib.hid (HY.out hu)
          unfold valK at k1
          clear hu HW HY HM
          go_wp2_with (go_at_call 49; (with_reducible refine P.out.mono ?_); rintro e w3 ⟨rfl, F3, hr3, hs3⟩; obtain ⟨E3, A3, N3, S3⟩ := FIN.out w3 F3 hr3 hs3; clear hr3 hs3)
          go_roundg (gk - 1)
          case measure => have := HG.out; omega
          case rel => exact ⟨i + 1, F3, T, by have := HG.out; omega, by go_num, E3, A3, N3, HFU, S3, HC3⟩
        | rem =>
          have P := Lib.hid (HM.out hu)
          unfold valK at k1
          clear hu HW HY HM
          go_wp2_with (go_at_call 43; (with_reducible refine P.out.mono ?_); rintro e w3 ⟨rfl, F3, hr3, hs3⟩; obtain ⟨E3, A3, N3, S3⟩ := FIN.out w3 F3 hr3 hs3; clear hr3 hs3)
          go_roundg (gk - 1)
          case measure => have := HG.out; omega
          case rel => exact ⟨i + 1, F3, T, by have := HG.out; omega, by go_num, E3, A3, N3, HFU, S3, HC3⟩
      · have HRE := Lib.hid (show r = (T, z) by have := HX.out; rw [if_pos hz] at this; exact this.symm)
        have kz : ((z : Int) != 0) = true := by simp; omega
        clear hz
        cases x with
        | app =>
          have P := Lib.hid (HW.out hu)
          unfold valK at k1
          clear hu HW HY HM
          go_wp2_with (go_at_call 47; (with_reducible refine P.out.mono ?_); rintro e w3 ⟨rfl, F3, hr3, hs3⟩; obtain ⟨E3, A3, N3, S3⟩ := FIN.out w3 F3 hr3 hs3; clear hr3 hs3)
          (try rw [Exit.noGoto_ret])
          go_ret
          exact ⟨by rw [HRE.out]; rfl, F3, by rw [HRE.out]; exact E3.out.run, S3.out⟩
        | syn =>
          have P := Lib.hid (HY.out hu)
          unfold valK at k1
          clear hu HW HY HM
          go_wp2_with (go_at_call 49; (with_reducible refine P.out.mono ?_); rintro e w3 ⟨rfl, F3, hr3, hs3⟩; obtain ⟨E3, A3, N3, S3⟩ := FIN.out w3 F3 hr3 hs3; clear hr3 hs3)
          (try rw [Exit.noGoto_ret])
          go_ret
          exact ⟨by rw [HRE.out]; rfl, F3, by rw [HRE.out]; exact E3.out.run, S3.out⟩
        | rem =>
          have P := Lib.hid (HM.out hu)
          unfold valK at k1
          clear hu HW HY HM
          go_wp2_with (go_at_call 43; (with_reducible refine P.out.mono ?_); rintro e w3 ⟨rfl, F3, hr3, hs3⟩; obtain ⟨E3, A3, N3, S3⟩ := FIN.out w3 F3 hr3 hs3; clear hr3 hs3)
          (try rw [Exit.noGoto_ret])
          go_ret
          exact ⟨by rw [HRE.out]; rfl, F3, by rw [HRE.out]; exact E3.out.run, S3.out⟩
    · have HRE := Lib.hid (show r = (S2, 0) by
        have := HC2.out
        rw [List.drop_eq_nil_of_le (by omega)] at this
        exact this.symm)
      clear hg
      go_wp2
      go_ret
      exact ⟨by rw [HRE.out]; rfl, F2, by rw [HRE.out]; exact HE2.out.run, HS2.out⟩
#print axioms inTurn_any
end
end Go.Proofs.YtcnhifkpflaibaaDoor
