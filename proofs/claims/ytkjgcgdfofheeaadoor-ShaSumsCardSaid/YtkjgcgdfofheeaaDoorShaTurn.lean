/-
  The walk of turn: the state behind a block.
-/
import Derived.Test.YtkjgcgdfofheeaaDoorShaSpread
namespace Go.Proofs.YtkjgcgdfofheeaaDoor
open Go.RowKit

/-- Block g begins with these cells. -/
def TabAt (w : World) (g : Nat) (cs : List Value) : Prop := cs ≠ [] ∧ w.rangeAt g 0 cs
theorem TabAt.cell {w : World} {g : Nat} {cs : List Value} (h : TabAt w g cs) (j : Nat) {v : Value} (hj : cs[j]? = some v) : w.cell? ⟨g, j, none⟩ = some v := by
  have := h.2 j v hj
  rwa [Nat.zero_add] at this
theorem TabAt.lt {w : World} {g : Nat} {cs : List Value} (h : TabAt w g cs) : g < w.heap.size := by
  match cs, h with
  | v :: r, h => exact World.block_lt_of_cell? w _ (h.cell 0 (v := v) rfl)
  | [], h => exact absurd rfl h.1
theorem TabAt.below {w w' : World} {g : Nat} {cs : List Value} (h : TabAt w g cs) (hb : Below w.heap.size w w') : TabAt w' g cs :=
  ⟨h.1, fun j v hj => (hb.cell h.lt).trans (h.2 j v hj)⟩
theorem TabAt.grown {w w' : World} {g : Nat} {cs : List Value} {row : Option Nat} (h : TabAt w g cs) (hg : w.grownBy w' row) (hr : some g ≠ row) : TabAt w' g cs :=
  ⟨h.1, fun j v hj => hg.cell (h.2 j v hj) hr⟩
theorem TabAt.drew {w : World} {g : Nat} {cs : List Value} (h : TabAt w g cs) : TabAt w.drew g cs := h

/-- The program's two tables are as its text lays them. -/
structure Tables (w : World) : Prop where
  first : TabAt w 0 (wordsV firstH)
  round : TabAt w 1 (wordsV roundK)

theorem Tables.below {w w' : World} (h : Tables w) (hb : Below w.heap.size w w') : Tables w' := ⟨h.first.below hb, h.round.below hb⟩

theorem cell_words (l : List UInt32) (t : Nat) (h : t < l.length) : (wordsV l)[t]? = some (.int .u32 ((l.getD t 0).toNat : Int)) := by simp [wordsV, U, h]

theorem info_8w : (Tryd.prog.info? 41).map (·.size) = some 8 := by kernel_rfl
theorem info_64b : (Tryd.prog.info? 46).map (·.size) = some 64 := by kernel_rfl
theorem zero_8w (w : World) : (zeroValue 41).run Tryd.prog w = .ok (.agg (wordsV (zeroW 8)).toArray) w := by kernel_rfl

theorem turn_fin (x0 x1 x2 x3 x4 x5 x6 x7 a b' c d e f g h : UInt32) (b : List UInt8) (hr : runF (sched b 48) 64 (regOf [x0, x1, x2, x3, x4, x5, x6, x7]) = ⟨a, b', c, d, e, f, g, h⟩) :
    wordsV (turnF [x0, x1, x2, x3, x4, x5, x6, x7] b) = [.int .u32 (((x0.toNat : Int) + a.toNat) % 4294967296), .int .u32 (((x1.toNat : Int) + b'.toNat) % 4294967296), .int .u32 (((x2.toNat : Int) + c.toNat) % 4294967296), .int .u32 (((x3.toNat : Int) + d.toNat) % 4294967296),
      .int .u32 (((x4.toNat : Int) + e.toNat) % 4294967296), .int .u32 (((x5.toNat : Int) + f.toNat) % 4294967296), .int .u32 (((x6.toNat : Int) + g.toNat) % 4294967296), .int .u32 (((x7.toNat : Int) + h.toNat) % 4294967296)] := by
  unfold turnF
  rw [hr]
  simp only [u32_add_m]
  rfl

theorem spread_at (b : List UInt8) (hb : b.length = 64) (w : World) (W : List UInt32) (hW : W = sched b 48) :
    Calls Tryd.prog 21 #[.agg (bytesV b).toArray] w fun e w' => e = .returned (.agg (wordsV W).toArray) ∧ Below w.heap.size w w' := by
  rw [hW]
  exact spread_any b hb w

set_option maxRecDepth 100000 in
set_option maxHeartbeats 400000 in
theorem turn_any (x0 x1 x2 x3 x4 x5 x6 x7 : UInt32) (b : List UInt8) (hb : b.length = 64) (w : World) (ht : Tables w) :
    Calls Tryd.prog 19 #[.agg (wordsV [x0, x1, x2, x3, x4, x5, x6, x7]).toArray, .agg (bytesV b).toArray] w fun e w' => e = .returned (.agg (wordsV (turnF [x0, x1, x2, x3, x4, x5, x6, x7] b)).toArray) ∧ Below w.heap.size w w' := by
  have HB := Lib.hid hb
  obtain ⟨sb, hsb⟩ : ∃ sb, sb = sched b 48 := ⟨_, rfl⟩
  have HSB := Lib.hid hsb
  have h48 := Lib.hid (show (wordsV sb).length = 64 by rw [hsb, wordsV_length, sched_length])
  have hsb64 := Lib.hid (show sb.length = 64 by rw [hsb, sched_length])
  clear hsb
  clear hb
  go_enter Tryd.func19, Tryd.ntmps19
  go_wp2_with (first
    | ((with_reducible show wpList _ _ _ (⟨some 2, _, _, _, _, _⟩ :: _) _ _); refine box_row rfl 41 (.tmp 0) (wordsV [x0, x1, x2, x3, x4, x5, x6, x7]) rfl rfl ?_; intro w1 hr1 hbel1 hsz1; have HS1 := Lib.hid hsz1; clear hsz1)
    | ((with_reducible show wpList _ _ _ (⟨some 3, _, _, _, _, _⟩ :: _) _ _); refine box_row rfl 46 (.tmp 1) (bytesV b) rfl rfl ?_; intro w2 hr2 hbel2 hsz2; have HS2 := Lib.hid hsz2; clear hsz2)
    | ((with_reducible show wpList _ _ _ (⟨some 4, _, _, _, _, _⟩ :: _) _ _); refine alloc_row rfl 41 (wordsV (zeroW 8)) rfl zero_8w ?_; intro w3 hr3 hbel3 hsz3; have HS3 := Lib.hid hsz3; clear hsz3; have hr2' := hr2.below hbel3)
    | ((with_reducible show wpList _ _ _ (⟨some 22, _, _, _, _, _⟩ :: _) _ _); refine load_row rfl 46 (.tmp 3) rfl w1.heap.size 46 (bytesV b) _ rfl hr2' Tryd.underlying46 rfl (by rw [bytesV_length, HB.out]; exact info_64b) ?_)
    | (go_at_call 21; go_must (refine (spread_at b HB.out _ sb HSB.out).mono ?_); rintro e w4 ⟨rfl, hbel4⟩)
    | ((with_reducible show wpList _ _ _ (⟨some 5, _, _, _, _, _⟩ :: _) _ _); refine alloc_row rfl 42 (wordsV (zeroW 64)) rfl zero_64w ?_; intro w5 hr5 hbel5 hsz5; have HS5 := Lib.hid hsz5; clear hsz5)
    | ((with_reducible show wpList _ _ _ (⟨none, .store 42 _ _, _, _, _, _⟩ :: _) _ _); refine store_row rfl 42 (.tmp 5) (.tmp 23) rfl w4.heap.size 42 (wordsV (zeroW 64)) (wordsV sb) rfl rfl hr5 (by rw [h48.out, wordsV_length]; rfl) (by rw [h48.out]; exact info_64w) (wordsV_one _) ?_; intro w6 hr6 hgr6 hsz6; have HS6 := Lib.hid hsz6; clear hsz6))
  have hz1 := HS1.out
  have hz2 := HS2.out
  have hz3 := HS3.out
  have hz5 := HS5.out
  have hz6 := HS6.out
  have hl4 := hbel4.size
  have hbA : Below w.heap.size w w3 := (hbel1.trans (hbel2.mono (by omega))).trans (hbel3.mono (by omega))
  have hbB : Below w.heap.size w w6 := (((hbA.trans (hbel4.mono (by omega))).trans (hbel5.mono (by omega)))).grown hgr6 (by omega) (fun k hk => by simp at hk; omega)
  have e1 : RowAt w6 w.heap.size 41 (wordsV [x0, x1, x2, x3, x4, x5, x6, x7]) := ((((hr1.below hbel2).below hbel3).below hbel4).below hbel5).grown hgr6 (by simp; omega)
  have e4 : RowAt w6 w2.heap.size 41 (wordsV (zeroW 8)) := ((hr3.below hbel4).below hbel5).grown hgr6 (by simp; omega)
  have e0 : Tables w6 := ht.below hbB
  have n1 : w.heap.size ≠ w2.heap.size := by omega
  have n2 : w.heap.size ≠ w4.heap.size := by omega
  have n3 : w2.heap.size ≠ w4.heap.size := by omega
  have l1 : w.heap.size ≤ w2.heap.size := by omega
  have hg1 : 2 ≤ w.heap.size := by have := ht.round.lt; omega
  have c0 : w6.cell? ⟨w.heap.size, 0, none⟩ = some (.int .u32 (x0.toNat : Int)) := e1.cell 0 rfl
  have c1 : w6.cell? ⟨w.heap.size, 1, none⟩ = some (.int .u32 (x1.toNat : Int)) := e1.cell 1 rfl
  have c2 : w6.cell? ⟨w.heap.size, 2, none⟩ = some (.int .u32 (x2.toNat : Int)) := e1.cell 2 rfl
  have c3 : w6.cell? ⟨w.heap.size, 3, none⟩ = some (.int .u32 (x3.toNat : Int)) := e1.cell 3 rfl
  have c4 : w6.cell? ⟨w.heap.size, 4, none⟩ = some (.int .u32 (x4.toNat : Int)) := e1.cell 4 rfl
  have c5 : w6.cell? ⟨w.heap.size, 5, none⟩ = some (.int .u32 (x5.toNat : Int)) := e1.cell 5 rfl
  have c6 : w6.cell? ⟨w.heap.size, 6, none⟩ = some (.int .u32 (x6.toNat : Int)) := e1.cell 6 rfl
  have c7 : w6.cell? ⟨w.heap.size, 7, none⟩ = some (.int .u32 (x7.toNat : Int)) := e1.cell 7 rfl
  clear hz1 hz2 hz3 hz5 hz6 hbA hr1 hr2 hr2' hr3 hr5 hbel1 hbel2 hbel3 hbel4 hbel5 hgr6 hl4 HS1 HS2 HS3 HS5 HS6 ht
  generalize hgw : w.heap.size = gw at *
  generalize w2.heap.size = g4 at *
  generalize w4.heap.size = g5 at *
  have HGW := Lib.hid hgw
  clear hgw
  go_quiet (fail)
  go_wp2
  go_loopg [6, 7, 8, 9, 10, 11, 12, 13, 40] 64 (fun gh v6 v7 v8 v9 v10 v11 v12 v13 v40 W => ∃ (t : Nat) (a b' c d e f g h : UInt32), gh + t = 64 ∧ Hid (runF sb t (regOf [x0, x1, x2, x3, x4, x5, x6, x7]) = ⟨a, b', c, d, e, f, g, h⟩) ∧ v40 = .int .i64 t ∧
    v6 = .int .u32 (a.toNat : Int) ∧ v7 = .int .u32 (b'.toNat : Int) ∧ v8 = .int .u32 (c.toNat : Int) ∧ v9 = .int .u32 (d.toNat : Int) ∧ v10 = .int .u32 (e.toNat : Int) ∧ v11 = .int .u32 (f.toNat : Int) ∧ v12 = .int .u32 (g.toNat : Int) ∧ v13 = .int .u32 (h.toNat : Int) ∧
    RowAt W gw 41 (wordsV [x0, x1, x2, x3, x4, x5, x6, x7]) ∧ RowAt W g4 41 (wordsV (zeroW 8)) ∧ RowAt W g5 42 (wordsV sb) ∧ Tables W ∧ Below gw w W)
  case atStart => exact ⟨0, x0, x1, x2, x3, x4, x5, x6, x7, rfl, rfl, rfl, rfl, rfl, rfl, rfl, rfl, rfl, rfl, rfl, e1, e4, hr6, ⟨e0.first, e0.round⟩, ⟨hbB.os, hbB.tape, hbB.output, hbB.size, hbB.block⟩⟩
  case round =>
    obtain ⟨t, a, b', c, d, e, f, g, h, hg, hr, rfl, rfl, rfl, rfl, rfl, rfl, rfl, rfl, rfl, f1, f4, f5, f0, hbel⟩ := hrel
    have HG := Lib.hid hg
    have ht64 : t ≤ 64 := by omega
    clear hg e1 e4 hr6 e0 hbB c0 c1 c2 c3 c4 c5 c6 c7
    by_cases htl : t < 64
    · obtain ⟨kt, wt, ck, cw, hn⟩ : ∃ kt wt : UInt32, wr.cell? ⟨1, t, none⟩ = some (.int .u32 (kt.toNat : Int)) ∧ wr.cell? ⟨g5, t, none⟩ = some (.int .u32 (wt.toNat : Int)) ∧
          runF sb (t + 1) (regOf [x0, x1, x2, x3, x4, x5, x6, x7]) = stepF kt wt ⟨a, b', c, d, e, f, g, h⟩ :=
        ⟨_, _, f0.round.cell t (cell_words _ t htl), f5.cell t (cell_words _ t (by rw [hsb64.out]; exact htl)), by rw [runF, hr.out]⟩
      have HN := Lib.hid hn
      have hsg : IntKind.u32.signed = false := rfl
      clear hn
      go_wp2_with (go_at_call 22; go_must (refine (right_lit _ _ _ (by omega) (by omega)).mono ?_); rintro e w7 ⟨rfl, rfl⟩)
      go_quiet (fail)
      go_wp2_with (go_at_call 22; go_must (refine (right_lit _ _ _ (by omega) (by omega)).mono ?_); rintro e w7 ⟨rfl, rfl⟩)
      go_roundg (gk - 1)
      case measure => have := HG.out; omega
      case rel =>
        refine ⟨t + 1, _, a, b', c, _, e, f, g, by have := HG.out; omega, HN.out, by go_num, ?_, rfl, rfl, rfl, ?_, rfl, rfl, rfl, f1, f4, f5, ⟨f0.first, f0.round⟩, ⟨hbel.os, hbel.tape, hbel.output, hbel.size, hbel.block⟩⟩
        · exact congrArg (Value.int .u32) (stepA_form a b' c d e f g h kt wt)
        · exact congrArg (Value.int .u32) (stepE_form a b' c d e f g h kt wt)
    · obtain rfl : t = 64 := by omega
      have HF := Lib.hid (turn_fin x0 x1 x2 x3 x4 x5 x6 x7 a b' c d e f g h b (by rw [← HSB.out]; exact hr.out))
      have k0 : wr.cell? ⟨gw, 0, none⟩ = some (.int .u32 (x0.toNat : Int)) := f1.cell 0 rfl
      have z0 := f1.free 0
      have k1 : wr.cell? ⟨gw, 1, none⟩ = some (.int .u32 (x1.toNat : Int)) := f1.cell 1 rfl
      have z1 := f1.free 1
      have k2 : wr.cell? ⟨gw, 2, none⟩ = some (.int .u32 (x2.toNat : Int)) := f1.cell 2 rfl
      have z2 := f1.free 2
      have k3 : wr.cell? ⟨gw, 3, none⟩ = some (.int .u32 (x3.toNat : Int)) := f1.cell 3 rfl
      have z3 := f1.free 3
      have k4 : wr.cell? ⟨gw, 4, none⟩ = some (.int .u32 (x4.toNat : Int)) := f1.cell 4 rfl
      have z4 := f1.free 4
      have k5 : wr.cell? ⟨gw, 5, none⟩ = some (.int .u32 (x5.toNat : Int)) := f1.cell 5 rfl
      have z5 := f1.free 5
      have k6 : wr.cell? ⟨gw, 6, none⟩ = some (.int .u32 (x6.toNat : Int)) := f1.cell 6 rfl
      have z6 := f1.free 6
      have k7 : wr.cell? ⟨gw, 7, none⟩ = some (.int .u32 (x7.toNat : Int)) := f1.cell 7 rfl
      have z7 := f1.free 7
      clear f0 f5 hr
      have i0 : ∀ w, (Instr.index 41 (.agg #[.int .u32 (a.toNat : Int), .int .u32 (b'.toNat : Int), .int .u32 (c.toNat : Int), .int .u32 (d.toNat : Int), .int .u32 (e.toNat : Int), .int .u32 (f.toNat : Int), .int .u32 (g.toNat : Int), .int .u32 (h.toNat : Int)]) (.int .i64 0)).run Tryd.prog w = .ok (.int .u32 (a.toNat : Int)) w := fun _ => by kernel_rfl
      have i1 : ∀ w, (Instr.index 41 (.agg #[.int .u32 (a.toNat : Int), .int .u32 (b'.toNat : Int), .int .u32 (c.toNat : Int), .int .u32 (d.toNat : Int), .int .u32 (e.toNat : Int), .int .u32 (f.toNat : Int), .int .u32 (g.toNat : Int), .int .u32 (h.toNat : Int)]) (.int .i64 1)).run Tryd.prog w = .ok (.int .u32 (b'.toNat : Int)) w := fun _ => by kernel_rfl
      have i2 : ∀ w, (Instr.index 41 (.agg #[.int .u32 (a.toNat : Int), .int .u32 (b'.toNat : Int), .int .u32 (c.toNat : Int), .int .u32 (d.toNat : Int), .int .u32 (e.toNat : Int), .int .u32 (f.toNat : Int), .int .u32 (g.toNat : Int), .int .u32 (h.toNat : Int)]) (.int .i64 2)).run Tryd.prog w = .ok (.int .u32 (c.toNat : Int)) w := fun _ => by kernel_rfl
      have i3 : ∀ w, (Instr.index 41 (.agg #[.int .u32 (a.toNat : Int), .int .u32 (b'.toNat : Int), .int .u32 (c.toNat : Int), .int .u32 (d.toNat : Int), .int .u32 (e.toNat : Int), .int .u32 (f.toNat : Int), .int .u32 (g.toNat : Int), .int .u32 (h.toNat : Int)]) (.int .i64 3)).run Tryd.prog w = .ok (.int .u32 (d.toNat : Int)) w := fun _ => by kernel_rfl
      have i4 : ∀ w, (Instr.index 41 (.agg #[.int .u32 (a.toNat : Int), .int .u32 (b'.toNat : Int), .int .u32 (c.toNat : Int), .int .u32 (d.toNat : Int), .int .u32 (e.toNat : Int), .int .u32 (f.toNat : Int), .int .u32 (g.toNat : Int), .int .u32 (h.toNat : Int)]) (.int .i64 4)).run Tryd.prog w = .ok (.int .u32 (e.toNat : Int)) w := fun _ => by kernel_rfl
      have i5 : ∀ w, (Instr.index 41 (.agg #[.int .u32 (a.toNat : Int), .int .u32 (b'.toNat : Int), .int .u32 (c.toNat : Int), .int .u32 (d.toNat : Int), .int .u32 (e.toNat : Int), .int .u32 (f.toNat : Int), .int .u32 (g.toNat : Int), .int .u32 (h.toNat : Int)]) (.int .i64 5)).run Tryd.prog w = .ok (.int .u32 (f.toNat : Int)) w := fun _ => by kernel_rfl
      have i6 : ∀ w, (Instr.index 41 (.agg #[.int .u32 (a.toNat : Int), .int .u32 (b'.toNat : Int), .int .u32 (c.toNat : Int), .int .u32 (d.toNat : Int), .int .u32 (e.toNat : Int), .int .u32 (f.toNat : Int), .int .u32 (g.toNat : Int), .int .u32 (h.toNat : Int)]) (.int .i64 6)).run Tryd.prog w = .ok (.int .u32 (g.toNat : Int)) w := fun _ => by kernel_rfl
      have i7 : ∀ w, (Instr.index 41 (.agg #[.int .u32 (a.toNat : Int), .int .u32 (b'.toNat : Int), .int .u32 (c.toNat : Int), .int .u32 (d.toNat : Int), .int .u32 (e.toNat : Int), .int .u32 (f.toNat : Int), .int .u32 (g.toNat : Int), .int .u32 (h.toNat : Int)]) (.int .i64 7)).run Tryd.prog w = .ok (.int .u32 (h.toNat : Int)) w := fun _ => by kernel_rfl
      go_wp2
      refine wp_loop_rounds 9 ?_
      iterate 9
        rw [rounds_succ]
        go_wp2_with (first
          | ((with_reducible show wpList _ _ _ (⟨some 126, _, _, _, _, _⟩ :: _) _ _); go_must (refine load_row rfl 41 (.tmp 2) rfl gw 41 _ _ rfl ((((((((f1.set 0 _).set 1 _).set 2 _).set 3 _).set 4 _).set 5 _).set 6 _).set 7 _) Tryd.underlying41 rfl info_8w ?_))
          | ((with_reducible show wpList _ _ _ (⟨none, .store 41 _ _, _, _, _, _⟩ :: _) _ _); go_must (refine store_row rfl 41 (.tmp 4) (.tmp 126) rfl g4 41 (wordsV (zeroW 8)) (wordsV (turnF [x0, x1, x2, x3, x4, x5, x6, x7] b)) rfl (by rw [HF.out]; rfl) ((((((((f4.other (by simpa using n1.symm) _).other (by simpa using n1.symm) _).other (by simpa using n1.symm) _).other (by simpa using n1.symm) _).other (by simpa using n1.symm) _).other (by simpa using n1.symm) _).other (by simpa using n1.symm) _).other (by simpa using n1.symm) _) (by rw [HF.out]; rfl) (by rw [HF.out]; exact info_8w) (wordsV_one _) ?_); intro w9 hr9 hgr9 hsz9))
      have hgwl := f1.lt
      have hbl := (Below.setCell (Below.setCell (Below.setCell (Below.setCell (Below.setCell (Below.setCell (Below.setCell (Below.setCell hbel (Nat.le_refl _) _) (Nat.le_refl _) _) (Nat.le_refl _) _) (Nat.le_refl _) _) (Nat.le_refl _) _) (Nat.le_refl _) _) (Nat.le_refl _) _) (Nat.le_refl _) _).grown hgr9 (by simp; omega) (fun k hk => by simp at hk; omega)
      exact bodyPost_ret (results_row rfl _ _ g4 41 _ _ rfl hr9 Tryd.underlying41 rfl (by rw [HF.out]; exact info_8w)) rfl ⟨rfl, by rw [HGW.out]; exact hbl⟩
#print axioms turn_any
end Go.Proofs.YtkjgcgdfofheeaaDoor
