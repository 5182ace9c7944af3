/-
  The walks of Make's two closures: a number told behind the delta, a piece added.
-/
import Derived.Test.YtheigemfbcgjcaaDlLongest
import Derived.Test.YtheigemfbcgjcaaPut
import Derived.Test.YtheigemfbcgjcaaTell
namespace Go.Proofs.Ytheigemfbcgjcaa
open Go.RowKit Go.Lib

/-- A box that holds the bytes told so far, in memory of their own. -/
structure DBox (w : World) (gd base : Nat) (v : Value) (out : List UInt8) : Prop where
  cell : w.cell? ⟨gd, 0, none⟩ = some v
  free : w.frozen? ⟨gd, 0, none⟩ = false
  own : Own w base v out
  lt : gd < base
  le : base ≤ w.heap.size
/-- Nothing else has turned. -/
structure Step (gd : Nat) (v : Value) (w w' : World) : Prop where
  os : w'.os = w.os
  tape : w'.tape = w.tape
  output : w'.output = w.output
  size : w.heap.size ≤ w'.heap.size
  block : ∀ k, k < w.heap.size → k ≠ gd → v.ownBlock ≠ some k → w'.heap[k]? = w.heap[k]?
/-- What is told behind. -/
def ToldIs (gd base : Nat) (v : Value) (w : World) (out : List UInt8) (e : Ending) (w' : World) : Prop := e = .returned (.tuple #[]) ∧ ∃ v', DBox w' gd base v' out ∧ Step gd v w w' ∧ Told w v v'
theorem told_store {gd base n c n6 c6 : Nat} {a a6 : Option Addr} {out l : List UInt8} {w w1 w6 : World} (h : DBox w gd base (.slice a n c) out) (hb : Below w.heap.size w w1) (ho : Own w6 base (.slice a6 n6 c6) l) (hg : w1.grownBy w6 (Value.slice a n c).ownBlock) (ht : Told w1 (.slice a n c) (.slice a6 n6 c6)) :
    ToldIs gd base (.slice a n c) w l (.returned (.tuple #[])) (w6.setCell ⟨gd, 0, none⟩ (.slice a6 n6 c6)) := by
  have hlt := h.lt
  have hgd := World.block_lt_of_cell? _ _ h.cell
  have hne : some gd ≠ (Value.slice a n c).ownBlock := fun e => by have := h.own.grown gd e.symm; omega
  have hbk := hg.block gd (Nat.lt_of_lt_of_le hgd hb.size) hne
  have hb1 := hb.block gd hgd
  have k6 : w6.cell? ⟨gd, 0, none⟩ = some (.slice a n c) := by rw [World.cell?_of_block (a := ⟨gd, 0, none⟩) hbk, World.cell?_of_block (a := ⟨gd, 0, none⟩) hb1]; exact h.cell
  have z6 : w6.frozen? ⟨gd, 0, none⟩ = false := by rw [World.frozen?_of_block (a := ⟨gd, 0, none⟩) hbk, World.frozen?_of_block (a := ⟨gd, 0, none⟩) hb1]; exact h.free
  have hs : (w6.setCell ⟨gd, 0, none⟩ (.slice a6 n6 c6)).heap.size = w6.heap.size := by simp
  refine ⟨rfl, _, ⟨World.cell?_setCell_same (a := ⟨gd, 0, none⟩) (v := _) (h := k6), by rw [World.frozen?_setCell]; exact z6, ownsRow_setCell_below ho (a := ⟨gd, 0, none⟩) h.lt _, h.lt, ?_⟩, ⟨?_, ?_, ?_, ?_, fun k hk hk1 hk2 => ?_⟩, ht.imp id (fun ⟨k, h1, h2⟩ => ⟨k, h1, Nat.le_trans hb.size h2⟩)⟩
  · rw [hs]; exact Nat.le_trans h.le (Nat.le_trans hb.size hg.size)
  · exact hg.os.trans hb.os
  · exact hg.tape.trans hb.tape
  · exact hg.output.trans hb.output
  · rw [hs]; exact Nat.le_trans hb.size hg.size
  · rw [heap_setCell_other w6 ⟨gd, 0, none⟩ k _ hk1, hg.block k (Nat.lt_of_lt_of_le hk hb.size) (fun e => hk2 e.symm)]
    exact hb.block k hk
set_option maxRecDepth 100000 in
set_option maxHeartbeats 1000000 in
theorem num1_any (gd base m : Nat) (v : Value) (out : List UInt8) (w : World) (h : DBox w gd base v out) (hm : m < 9223372036854775808) (hl : out.length + (numF m).length ≤ 70368744177664) :
    Calls Try.prog 16 #[.int .i64 (m : Nat), .pointer (some ⟨gd, 0, none⟩)] w (ToldIs gd base v w (out ++ numF m)) := by
  obtain ⟨a, n, c, rfl, _⟩ := h.own.bytes
  have HX := Lib.hid h
  have HL := Lib.hid hl
  have HP : Hid (Calls Try.prog 17 #[.slice none 0 0, .int .i64 (m : Nat)] w (MadePair w (numF m) 0)) := Lib.hid (put_any none 0 0 m [] w ⟨rfl, Nat.le_refl _, by omega, .inl ⟨rfl, rfl⟩⟩ hm (by simp))
  clear h hl hm
  go_enter Try.func16, Try.ntmps16
  go_wp2_with (first
    | (go_at_call 17; (with_reducible refine HP.out.mono ?_); rintro e w1 ⟨a1, n1, c1, rfl, ho, hb⟩; have HO1 := Lib.hid ho; have HB1 := Lib.hid hb; have k1 := (hb.cell (World.block_lt_of_cell? _ _ HX.out.cell)).trans HX.out.cell; have HN1 := Lib.hid ho.len; clear ho hb)
    | (at_builtin; go_must (refine app_bytes_told rfl _ _ rfl base _ out rfl (HX.out.own.below HB1.out) _ n1 c1 (numF m) rfl HO1.out.isBytes (by rw [HN1.out]; have := HL.out; omega) (Nat.le_trans HX.out.le HB1.out.size) ?_); intro v6 w6 ho hg hto; obtain ⟨a6, n6, c6, rfl, _⟩ := ho.bytes; have HT6 := Lib.hid hto; have HO6 := Lib.hid ho; have HG6 := Lib.hid hg; have hlt := HX.out.lt; have hne : some gd ≠ (Value.slice a n c).ownBlock := (fun e => by have := HX.out.own.grown gd e.symm; omega); have hgl := World.block_lt_of_cell? _ _ k1; have hbk := hg.block gd hgl hne; have k6 := (World.cell?_of_block (a := ⟨gd, 0, none⟩) hbk).trans k1; have z6 : w6.frozen? ⟨gd, 0, none⟩ = false := (by rw [World.frozen?_of_block (a := ⟨gd, 0, none⟩) hbk, World.frozen?_of_block (a := ⟨gd, 0, none⟩) (HB1.out.block gd (World.block_lt_of_cell? _ _ HX.out.cell))]; exact HX.out.free); clear ho hg hto hbk hgl hne hlt))
  refine bodyPost_end (results_none rfl _ _ _) rfl ?_
  exact told_store HX.out HB1.out HO6.out HG6.out HT6.out
end Go.Proofs.Ytheigemfbcgjcaa
