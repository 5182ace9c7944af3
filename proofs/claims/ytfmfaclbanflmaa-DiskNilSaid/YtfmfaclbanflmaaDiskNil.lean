/-
  The walk of DiskNil: a disk that is not there has nothing and takes nothing.
-/
import Derived.Test.YtfmfaclbanflmaaDiskNilDo
import Derived.Test.YtfmfaclbanflmaaDiskAwake
namespace Go.Proofs.Ytfmfaclbanflmaa
open Go.RowKit Go.Maps

theorem act_kept {W W2 : World} {g : Nat} {cs : Array Value} {ty : TypeId} (h : W.heap[g]? = some (.cells cs ty (0, 0))) (hb : Below W.heap.size W W2) : W2.heap[g]? = some (.cells cs ty (0, 0)) := by
  have : g < W.heap.size := by
    rcases Nat.lt_or_ge g W.heap.size with h' | h'
    · exact h'
    · rw [Array.getElem?_eq_none h'] at h; cases h
  rw [hb.block g this]; exact h
theorem act_cells {W : World} {g : Nat} {cs : Array Value} {ty : TypeId} (h : W.heap[g]? = some (.cells cs ty (0, 0))) {j : Nat} {v : Value} (hv : cs[j]? = some v) : W.cell? ⟨g, j, none⟩ = some v := by
  rw [cell_of_row W g j cs ty (0, 0) h]; exact hv
theorem load_act {W : World} {g : Nat} {z : Int} {s t : ByteArray} {a : Option Addr} {m c : Nat} {n : Int} {a5 : Option Addr} {m5 c5 : Nat} {ty : TypeId} (h : W.heap[g]? = some (.cells (actC z s t a m c n a5 m5 c5) ty (0, 0))) :
    (loadVar 37 ⟨g, 0, none⟩).run Try.prog W = .ok (.agg (actC z s t a m c n a5 m5 c5)) W :=
  run_loadVar_mid (P := Try.prog) W g 0 37 (actC z s t a m c n a5 m5 c5).toList _ (fun j v hj => by
    rw [Nat.zero_add]
    exact act_cells h (by simpa using hj)) Try.underlying37 rfl (by kernel_rfl)

set_option maxRecDepth 100000 in
set_option maxHeartbeats 2000000 in
theorem diskNil_any (z : Int) (s t : ByteArray) (a : Option Addr) (m c : Nat) (n : Int) (a5 : Option Addr) (m5 c5 : Nat) (w : World) :
    Calls Try.prog 6 #[.agg (actC z s t a m c n a5 m5 c5)] w fun e w' => e = .returned (.bool true) ∧ Below w.heap.size w w' := by
  have h0 : (w.alloc (.cells (actC z s t a m c n a5 m5 c5) 37)).heap[w.heap.size]? = some (.cells (actC z s t a m c n a5 m5 c5) 37 (0, 0)) := heap_alloc_new w _
  have hb := (Below.refl w.heap.size w).alloc (Nat.le_refl _) (.cells (actC z s t a m c n a5 m5 c5) 37)
  have HX := Lib.hid h0
  have HB := Lib.hid hb
  have hl := load_act h0
  clear hb h0
  go_enter Try.func6, Try.ntmps6
  go_wp2_with (first
    | (go_at_call 19; (with_reducible refine (nil_do _ _ _ _ _ _ _ _ _ _ _).mono ?_); rintro e w1 ⟨rfl, hb1⟩; have X1 := Lib.hid (act_kept HX.out hb1); have B1 := Lib.hid (HB.out.trans (hb1.mono HB.out.size)); have k1 := act_cells X1.out (j := 1) rfl; clear hb1 hl)
    | (go_at_call 24; (with_reducible refine (nil_read _ _).mono ?_); rintro e w2 ⟨rfl, hb1⟩; have X2 := Lib.hid (act_kept X1.out hb1); have B2 := Lib.hid (B1.out.trans (hb1.mono B1.out.size)); have k21 := act_cells X2.out (j := 1) rfl; have k23 := act_cells X2.out (j := 3) rfl; clear hb1 k1)
    | (go_at_call 22; (with_reducible refine (nil_append _ _ _ _ _).mono ?_); rintro e w3 ⟨rfl, hb1⟩; have X3 := Lib.hid (act_kept X2.out hb1); have B3 := Lib.hid (B2.out.trans (hb1.mono B2.out.size)); have k31 := act_cells X3.out (j := 1) rfl; clear hb1 k21 k23)
    | (go_at_call 23; (with_reducible refine (nil_sync _ _).mono ?_); rintro e w4 ⟨rfl, hb1⟩; have B4 := Lib.hid (B3.out.trans (hb1.mono B3.out.size)); clear hb1 k31)
    | (go_at_call 13; (with_reducible refine (nil_list _).mono ?_); rintro e w5 ⟨rfl, rfl⟩)
    | (go_at_call 15; (with_reducible refine (nil_used _).mono ?_); rintro e w5 ⟨rfl, rfl⟩)
    | (go_at_call 17; (with_reducible refine (nil_refused _).mono ?_); rintro e w5 ⟨rfl, rfl⟩)
    | (go_at_call 16; (with_reducible refine (nil_down _).mono ?_); rintro e w5 ⟨rfl, rfl⟩)
    | (go_at_call 18; (with_reducible refine (awake_any _).mono ?_); rintro e w6 ⟨rfl, hb1⟩; have B5 := Lib.hid (B4.out.trans (hb1.mono B4.out.size)); clear hb1))
  go_ret
  exact ⟨rfl, B5.out⟩
#print axioms diskNil_any
end Go.Proofs.Ytfmfaclbanflmaa
