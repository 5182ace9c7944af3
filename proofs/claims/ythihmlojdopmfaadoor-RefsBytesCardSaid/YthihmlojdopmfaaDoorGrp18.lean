/-
  Merged: RfWrite3, RfWrite4.
-/
import Derived.Test.YthihmlojdopmfaaDoorGrp17
import Derived.Test.YthihmlojdopmfaaDoorGrp1
import Derived.Test.YthihmlojdopmfaaDoorRfTold
namespace Go.Proofs.YthihmlojdopmfaaDoor
open Go.RowKit

abbrev FIf : TypeId := 76
abbrev FSf : TypeId := 78
abbrev FDf : TypeId := 79
structure Pens (w : World) (gb g4 g5 g6 : Nat) : Prop where
 num : RowAt w g4 FIf [.func (.func 29) #[] #[.pointer (some ⟨gb, 0, none⟩)]]
 text : RowAt w g5 FSf [.func (.func 31) #[] #[.pointer (some ⟨gb, 0, none⟩)]]
 id : RowAt w g6 FDf [.func (.func 33) #[] #[.pointer (some ⟨gb, 0, none⟩)]]
 n4 : g4 ≠ gb
 n5 : g5 ≠ gb
 n6 : g6 ≠ gb
theorem Pens.wg {w w' : World} {gb g4 g5 g6 : Nat} (h : Pens w gb g4 g5 g6) (hg : WG gb w w') : Pens w' gb g4 g5 g6 :=
 ⟨hg.row _ _ _ (by decide) h.n4 h.num, hg.row _ _ _ (by decide) h.n5 h.text, hg.row _ _ _ (by decide) h.n6 h.id, h.n4, h.n5, h.n6⟩
theorem wl_store_rowG {E : TypeId} {vs : List Value} {w : World} {g : Nat} {us : List Value} (hR : RowAt w g E us) (hk : (Tryd.prog.info? E).map (·.size) = some vs.length) (hl : us.length = vs.length) (h1 : ∀ v ∈ vs, v.oneCell' = true)
  {ops : Array Oper} {rest : List Oper} {o : Oper} {ac : Act} {Q : Exit → Act → World → Prop} (hgd : o.guard = none) (x y : Operand) (ho : o.op = .store E x y)
  (hx : ac.eval x = .pointer (some ⟨g, 0, none⟩)) (hy : ac.eval y = .agg vs.toArray)
  (hQ : ∀ W, RowAt W g E vs → w.grownBy W (some g) → wpList Tryd.prog ops Q rest (ac.put o.dst undef) W) : wpList Tryd.prog ops Q (o :: rest) ac w := by
 refine wpList_store_row hgd E x y ho g vs.toArray hx hy E us.toArray hR (by rw [List.size_toArray]; exact hk) (by simp [hl]) ?_ (hQ _ (setRow_heap _ _ us.toArray vs.toArray _ _ hR) ?_)
 ·rw [Array.all_eq_true_iff_forall_mem]
  intro v hv
  exact h1 v (by simpa using hv)
 ·refine ⟨rfl, rfl, rfl, by simp [World.setRow], fun k hk hne => ?_⟩
  unfold World.setRow
  rw [Array.getElem?_modify, if_neg (fun e => hne (by rw [e]))]
theorem exec_loadIdW {w : World} {o : Oper} {a : Act} (x : Operand) (ho : o.op = .load 24 x) (b off : Nat) (l : List UInt8) (hl : l.length = 32) (hx : a.eval x = .pointer (some ⟨b, off, none⟩)) (hc : w.rangeAt b off (l.map B)) :
  (execOp a.eval o).run Tryd.prog w = .ok (.value (.agg (idCells l))) w := by
 have hr := run_loadVar_mid (P := Tryd.prog) w b off 24 (l.map B) _ hc Tryd.underlying24 rfl (by rw [List.length_map, hl]; kernel_rfl)
 unfold execOp
 simp only [ho, hx, Instr.loadAt, Instr.sureAddr, Sem.run_bind, Sem.run_pure, Result.andThen_ok, hr]
 rfl
theorem WG.new {gb g : Nat} {w w1 w2 : World} (h : WG gb w w1) (hg : w1.grownBy w2 (some g)) (_h1 : gb < g) (_h2 : w.heap.size ≤ g) : WG gb w w2 :=
 ⟨hg.os.trans h.os, hg.tape.trans h.tape, hg.output.trans h.output, Nat.le_trans h.size hg.size, fun k hk hb => (hg.block k (Nat.lt_of_lt_of_le hk h.size) (fun e => by have := Option.some.inj e; omega)).trans (h.low k hk hb),
  fun k E cs hE hk hr => (h.row k E cs hE hk hr).grown hg (fun e => by have := Option.some.inj e; have := hr.lt; omega)⟩
theorem Wr.grown {w w' : World} {gb g : Nat} {E : TypeId} {cs : List Value} {L : List UInt8} (h : Wr w gb L) (hr : RowAt w g E cs) (hg : w.grownBy w' (some g)) (h1 : gb ≠ g) (hE : E ≠ U8f) : Wr w' gb L := by
 obtain ⟨a, n, c, hr1, ho⟩ := h
 exact ⟨a, n, c, hr1.grown hg (fun e => h1 (Option.some.inj e)), (Own.toW ho).kept hg (.inr (row_ne hr ho hE).symm) |>.ofW⟩
theorem Wr.lt {w : World} {gb : Nat} {L : List UInt8} (h : Wr w gb L) : gb < w.heap.size := by
 obtain ⟨a, n, c, hr1, ho⟩ := h
 exact hr1.lt
theorem namesB_app (L M : List RName) : namesB (L ++ M) = namesB L ++ namesB M := by simp [namesB]
theorem namesB_le (N : List RName) (i : Nat) : (namesB (N.take i)).length ≤ (namesB N).length := by
 have := congrArg (fun l => (namesB l).length) (List.take_append_drop i N)
 simp only [namesB_app, List.length_append] at this
 omega
theorem take_gdW {α : Type} [Inhabited α] {L : List α} {i : Nat} (h : i < L.length) : L.take (i + 1) = L.take i ++ [gd L i] := by
 rw [List.take_add_one]
 congr 1
 unfold gd
 simp [h]
def nsB (L : List UInt8) (N : List RName) (i : Nat) : List UInt8 := L ++ (numF N.length ++ namesB (N.take i))
theorem nsB_zero (L : List UInt8) (N : List RName) : L ++ numF N.length = nsB L N 0 := by simp [nsB, namesB]
theorem nsB_next {L : List UInt8} {N : List RName} {i : Nat} {X : RName} (h : i < N.length) (hX : X = gd N i) : (nsB L N i ++ txtRf X.1) ++ X.2 = nsB L N (i + 1) := by
 unfold nsB
 rw [take_gdW h, namesB_snoc, ← hX]
 simp only [nameB, List.append_assoc]
theorem nsB_end {L : List UInt8} {N : List RName} : nsB L N N.length = L ++ listB N := by unfold nsB listB; rw [List.take_length]
theorem nsB_le {L : List UInt8} {N : List RName} {k : Nat} (h : L.length + (listB N).length ≤ k) (i : Nat) : (nsB L N i).length ≤ k := by
 have := namesB_le N i
 unfold listB at h
 unfold nsB
 simp only [List.length_append] at *
 omega

set_option maxRecDepth 100000 in
set_option maxHeartbeats 4000000 in
theorem wnames_any {w0 w : World} {gb g4 g5 g6 n c : Nat} {a : Option Addr} {N : List RName} {L : List UInt8} (hA : AtG rnK w0 a n c N) (hB : Below w0.heap.size w0 w) (hgb : w0.heap.size ≤ gb) (hP : Pens w gb g4 g5 g6) (h : Wr w gb L) (hn : N.length ≤ 100000) (hx : ∀ x ∈ N, x.1.length ≤ 1000) (hl : L.length + (listB N).length ≤ 1000000000) :
  Calls Tryd.prog 34 #[.slice a n c, .pointer (some ⟨g4, 0, none⟩), .pointer (some ⟨g5, 0, none⟩), .pointer (some ⟨g6, 0, none⟩)] w (Wrote gb (L ++ listB N) w) := by
 obtain rfl : N.length = n := hA.1
 have HA := Lib.hid hA
 have HB := Lib.hid hB
 have HGB := Lib.hid hgb
 have HP := Lib.hid hP
 have HW := Lib.hid h
 have HX := Lib.hid hx
 have HLE := Lib.hid (nsB_le hl)
 have HL0 : Hid (L.length ≤ 1000000000) := Lib.hid (by omega)
 have HN := Lib.hid hn
 have c4 := hP.num.cell 0 rfl
 have hnI : (N.length : Int) ≤ 100000 := by omega
 clear hA hB hgb hP h hx hl hn
 go_enter Tryd.func34, Tryd.ntmps34
 go_wp2_with (go_at_call 29; go_must (refine (wnum_any HW.out HL0.out (by have := HN.out; omega)).mono ?_); rintro e w1 ⟨rfl, hw, hg⟩; rw [nsB_zero] at hw; have HW1 := Lib.hid hw; have HG1 := Lib.hid hg; clear hw hg)
 go_loopg [13] N.length (fun g v13 W => ∃ i : Nat, v13 = .int .i64 i ∧ g + i = N.length ∧ Hid (Wr W gb (nsB L N i)) ∧ Hid (WG gb w W))
 case atStart => exact ⟨0, rfl, rfl, HW1, HG1⟩
 case round =>
  clear HW1 HG1
  obtain ⟨i, rfl, hg, HWi, HGi⟩ := hrel
  have HG := Lib.hid hg
  have hi0 : (0 : Int) ≤ (i : Int) := by omega
  have hiI : (i : Int) ≤ (N.length : Int) := by omega
  by_cases hi : (i : Int) < (N.length : Int)
  ·have hin : i < N.length := by omega
   have HI := Lib.hid hin
   obtain ⟨b, o, rfl⟩ := HA.out.some_ (by omega)
   obtain ⟨X, hX⟩ : ∃ X, X = gd N i := ⟨_, rfl⟩
   have HXO : Hid (X.2.length = 32) := Lib.hid (hX ▸ HA.out.ok hin)
   have HXS : Hid (X.1.length ≤ 1000) := Lib.hid (hX ▸ HX.out _ (gd_mem hin))
   have HX1 := Lib.hid (fun W (hW : Below w0.heap.size w0 W) => (hX ▸ (HA.out.below hW).at_ i hin : W.rangeAt b (o + i * 33) (rnL X)))
   have HNX : Hid ((nsB L N i ++ txtRf X.1) ++ X.2 = nsB L N (i + 1)) := Lib.hid (nsB_next hin hX)
   have HL1 : Hid ((nsB L N i ++ txtRf X.1).length ≤ 1000000000) := Lib.hid (by
    have h1 := HLE.out (i + 1)
    rw [← HNX.out, List.length_append] at h1
    omega)
   have HBi := Lib.hid (HGi.out.below HB.out HGB.out HB.out.size)
   have HGL : Hid (gb < wr.heap.size) := Lib.hid HWi.out.lt
   clear hg hX
   go_wp2_with (first
    | ((with_reducible refine atS 16 ?_); go_must (refine wl_ex rfl (exec_loadRn _ rfl b (o + i * 33) X HXO.out rfl (HX1.out wr HBi.out)) ?_))
    | ((with_reducible refine atS 6 ?_); go_must (refine wl_alloc_rowz zeroNf rfl rfl ?_); intro w3 hz hb; have HZ3 := Lib.hid hz; have HW3 := Lib.hid (HWi.out.below hb); have HG3 := Lib.hid (HGi.out.trans (WG.of hb)); have HLS : Hid (w.heap.size ≤ wr.heap.size) := Lib.hid HGi.out.size; clear hz hb; generalize wr.heap.size = gn at HZ3 HLS HGL ⊢)
    | ((with_reducible refine atT 6 ?_); go_must (refine wl_store_rowG HZ3.out (vs := rnL X) (by rw [rnL_len HXO.out]; kernel_rfl) (by rw [rnL_len HXO.out]; rfl) (rnL_one X) rfl _ _ rfl rfl rfl ?_); intro w4 hz hg; have HZ4 := Lib.hid hz; have HW4 := Lib.hid (HW3.out.grown HZ3.out hg (Nat.ne_of_lt HGL.out) (by decide)); have HG4 := Lib.hid (HG3.out.new hg HGL.out HLS.out); have HP4 := Lib.hid (HP.out.wg HG4.out); have c5 := HP4.out.text.cell 0 rfl; have cn := HZ4.out.cell 0 rfl; clear hz hg)
    | (go_at_call 31; go_must (refine (wtext_any HW4.out (HLE.out i) (by have := HXS.out; omega)).mono ?_); rintro e w5 ⟨rfl, hw, hg⟩; have HW5 := Lib.hid hw; have HG5 := Lib.hid (HG4.out.trans hg); have HZ5 := Lib.hid (hg.row _ _ _ (by decide) (Nat.ne_of_gt HGL.out) HZ4.out); have HP5 := Lib.hid (HP.out.wg HG5.out); have c6 := HP5.out.id.cell 0 rfl; clear hw hg)
    | ((with_reducible refine atS 23 ?_); go_must (refine wl_ex rfl (exec_loadIdW _ rfl gn 1 X.2 HXO.out rfl (HZ5.out.range (l := [.string (strB X.1)]) (m := X.2.map B) (r := []) (by rw [List.append_nil]; rfl))) ?_))
    | (go_at_call 33; go_must (refine (wid_any HW5.out HL1.out HXO.out).mono ?_); rintro e w6 ⟨rfl, hw, hg⟩; rw [HNX.out] at hw; have HW6 := Lib.hid hw; have HG6 := Lib.hid (HG5.out.trans hg); clear hw hg))
   go_roundg (N.length - (i + 1))
   case measure => have := HG.out; have := HI.out; omega
   case rel => exact ⟨i + 1, by go_num, by have := HI.out; omega, HW6, HG6⟩
  ·have hin : i = N.length := by omega
   have HE : Hid (Wr wr gb (L ++ listB N)) := Lib.hid (by rw [← nsB_end, ← hin]; exact HWi.out)
   clear hg
   go_wp2
   exact bodyPost_end (results_none rfl _ _ _) rfl ⟨rfl, HE.out, HGi.out⟩
end Go.Proofs.YthihmlojdopmfaaDoor

namespace Go.Proofs.YthihmlojdopmfaaDoor
open Go.RowKit

structure Laid (w w5 : World) (S : RfS) (h m : List UInt8) : Prop where
 rf : RowAt w5 w.heap.size REf (rfL S h m)
 wr : Wr w5 (w.heap.size + 1) []
 pens : Pens w5 (w.heap.size + 1) (w.heap.size + 1 + 1) (w.heap.size + 1 + 1 + 1) (w.heap.size + 1 + 1 + 1 + 1)
 bel : Below w.heap.size w w5
theorem laid5 (w w5 : World) (S : RfS) (h m : List UInt8) (hw : w5 = ((((w.alloc (.cells (rfC S h m) REf)).alloc (.cells #[.slice none 0 0] SBf)).alloc
  (.cells #[.func (.func 29) #[] #[.pointer (some ⟨w.heap.size + 1, 0, none⟩)]] FIf)).alloc
  (.cells #[.func (.func 31) #[] #[.pointer (some ⟨w.heap.size + 1, 0, none⟩)]] FSf)).alloc
  (.cells #[.func (.func 33) #[] #[.pointer (some ⟨w.heap.size + 1, 0, none⟩)]] FDf)) : Laid w w5 S h m := by
 obtain ⟨w1, h1⟩ : ∃ W, w.alloc (.cells (rfC S h m) REf) = W := ⟨_, rfl⟩
 rw [h1] at hw
 obtain ⟨w2, h2⟩ : ∃ W, w1.alloc (.cells #[.slice none 0 0] SBf) = W := ⟨_, rfl⟩
 rw [h2] at hw
 obtain ⟨w3, h3⟩ : ∃ W, w2.alloc (.cells #[.func (.func 29) #[] #[.pointer (some ⟨w.heap.size + 1, 0, none⟩)]] FIf) = W := ⟨_, rfl⟩
 rw [h3] at hw
 obtain ⟨w4, h4⟩ : ∃ W, w3.alloc (.cells #[.func (.func 31) #[] #[.pointer (some ⟨w.heap.size + 1, 0, none⟩)]] FSf) = W := ⟨_, rfl⟩
 rw [h4] at hw
 have s1 : w1.heap.size = w.heap.size + 1 := by rw [← h1]; simp
 have s2 : w2.heap.size = w.heap.size + 1 + 1 := by rw [← h2]; simp [s1]
 have s3 : w3.heap.size = w.heap.size + 1 + 1 + 1 := by rw [← h3]; simp [s2]
 have s4 : w4.heap.size = w.heap.size + 1 + 1 + 1 + 1 := by rw [← h4]; simp [s3]
 have b1 : Below w.heap.size w w1 := h1 ▸ (Below.refl _ _).alloc (Nat.le_refl _) _
 have b2 : Below w1.heap.size w1 w2 := h2 ▸ (Below.refl _ _).alloc (Nat.le_refl _) _
 have b3 : Below w2.heap.size w2 w3 := h3 ▸ (Below.refl _ _).alloc (Nat.le_refl _) _
 have b4 : Below w3.heap.size w3 w4 := h4 ▸ (Below.refl _ _).alloc (Nat.le_refl _) _
 have b5 : Below w4.heap.size w4 w5 := hw ▸ (Below.refl _ _).alloc (Nat.le_refl _) _
 have r1 : RowAt w1 w.heap.size REf (rfL S h m) := h1 ▸ heap_alloc_new w _
 have r2 : RowAt w2 w1.heap.size SBf [.slice none 0 0] := h2 ▸ heap_alloc_new w1 _
 have r3 : RowAt w3 w2.heap.size FIf [.func (.func 29) #[] #[.pointer (some ⟨w.heap.size + 1, 0, none⟩)]] := h3 ▸ heap_alloc_new w2 _
 have r4 : RowAt w4 w3.heap.size FSf [.func (.func 31) #[] #[.pointer (some ⟨w.heap.size + 1, 0, none⟩)]] := h4 ▸ heap_alloc_new w3 _
 have r5 : RowAt w5 w4.heap.size FDf [.func (.func 33) #[] #[.pointer (some ⟨w.heap.size + 1, 0, none⟩)]] := hw ▸ heap_alloc_new w4 _
 rw [s1] at r2; rw [s2] at r3; rw [s3] at r4; rw [s4] at r5
 refine ⟨(((r1.below b2).below b3).below b4).below b5, ⟨_, _, _, ((r2.below b3).below b4).below b5, Own.nil _ _⟩, ⟨(r3.below b4).below b5, r4.below b5, r5, by omega, by omega, by omega⟩, ?_⟩
 exact (((b1.trans (b2.mono (by omega))).trans (b3.mono (by omega))).trans (b4.mono (by omega))).trans (b5.mono (by omega))
theorem logB_app (L M : List EntV) : logB (L ++ M) = logB L ++ logB M := by simp [logB]
theorem logB_le (N : List EntV) (i : Nat) : (logB (N.take i)).length ≤ (logB N).length := by
 have := congrArg (fun l => (logB l).length) (List.take_append_drop i N)
 simp only [logB_app, List.length_append] at this
 omega
theorem enL_at (X : EntV) (h : UpOk X.upd) {w : World} {g : Nat} {E : TypeId} (hr : RowAt w g E (enL X)) : w.rangeAt g 2 (X.upd.old.map B) ∧ w.rangeAt g 34 (X.upd.new.map B) ∧ w.cell? ⟨g, 66, none⟩ = some (.string (strB X.note)) := by
 refine ⟨hr.range (l := [.int .u8 (X.upd.kind : Int), .string (strB X.upd.name)]) (m := X.upd.old.map B) (r := X.upd.new.map B ++ [.string (strB X.note)]) (by unfold enL upL; simp only [List.append_assoc]), ?_, en_c66 h hr⟩
 have := hr.range (l := [.int .u8 (X.upd.kind : Int), .string (strB X.upd.name)] ++ X.upd.old.map B) (m := X.upd.new.map B) (r := [.string (strB X.note)]) (by unfold enL upL; simp only [List.append_assoc])
 rw [show ([.int .u8 (X.upd.kind : Int), .string (strB X.upd.name)] ++ X.upd.old.map B : List Value).length = 34 from by simp [h.2.1]] at this
 exact this
def lgB (P : List UInt8) (N : List EntV) (i : Nat) : List UInt8 := P ++ logB (N.take i)
theorem lgB_zero (P : List UInt8) (N : List EntV) : P = lgB P N 0 := by simp [lgB, logB]
theorem lgB_next {P : List UInt8} {N : List EntV} {i : Nat} {X : EntV} (h : i < N.length) (hX : X = gd N i) : ((((lgB P N i ++ [UInt8.ofNat X.upd.kind]) ++ txtRf X.upd.name) ++ X.upd.old) ++ X.upd.new) ++ txtRf X.note = lgB P N (i + 1) := by
 unfold lgB
 rw [take_gdW h, logB_snoc, ← hX]
 simp only [entB, List.append_assoc]
theorem lgB_le {P : List UInt8} {N : List EntV} {k : Nat} (h : (P ++ logB N).length ≤ k) (i : Nat) : (lgB P N i).length ≤ k := by
 have := logB_le N i
 unfold lgB
 simp only [List.length_append] at *
 omega
theorem byte_of {k : Nat} (h : k < 256) : ((UInt8.ofNat k).toNat : Int) = (k : Int) := by
 have : (UInt8.ofNat k).toNat = k := by simp; omega
 rw [this]
structure WrLen (r : RefsV) : Prop where
 br : r.br.length ≤ 100000
 tg : r.tg.length ≤ 100000
 lg : r.log.length ≤ 100000
 nb : ∀ x ∈ r.br, x.1.length ≤ 1000
 nt : ∀ x ∈ r.tg, x.1.length ≤ 1000
 hd : r.head.length ≤ 1000
 en : ∀ e ∈ r.log, e.upd.name.length ≤ 1000 ∧ e.note.length ≤ 1000
 all : (writeF r).length ≤ 1000000000

set_option maxRecDepth 100000 in
set_option maxHeartbeats 8000000 in
theorem write_any (S : RfS) (r : RefsV) (w : World) (h : RfIn w S r) (hz : WrLen r) :
  Calls Tryd.prog 14 #[.agg (rfC S r.head r.at_)] w (Made w (writeF r)) := by
 have hmf : ∀ (fn : Fn) (first cap : Array Value) (w : World), (Instr.makeFunc fn first cap).run Tryd.prog w = .ok (.func fn first cap) w := fun _ _ _ _ => rfl
 have hsf : ∀ (a : Addr) (fn : Fn) (f c : Array Value) (m : Mode) (w : World), (store a (.func fn f c) m).run Tryd.prog w = stored Tryd.prog w a (.func fn f c) m := fun a fn f c m w => run_store Tryd.prog w a _ m rfl
 have HIN := Lib.hid h
 have HAT := Lib.hid h.at_
 obtain ⟨w5, hw5⟩ : ∃ W, W = ((((w.alloc (.cells (rfC S r.head r.at_) REf)).alloc (.cells #[.slice none 0 0] SBf)).alloc
  (.cells #[.func (.func 29) #[] #[.pointer (some ⟨w.heap.size + 1, 0, none⟩)]] FIf)).alloc
  (.cells #[.func (.func 31) #[] #[.pointer (some ⟨w.heap.size + 1, 0, none⟩)]] FSf)).alloc
  (.cells #[.func (.func 33) #[] #[.pointer (some ⟨w.heap.size + 1, 0, none⟩)]] FDf) := ⟨_, rfl⟩
 have HLD := Lib.hid (laid5 w w5 S r.head r.at_ hw5)
 have HW5 := Lib.hid hw5
 have HZ := Lib.hid hz
 have HB5 := Lib.hid HLD.out.bel
 obtain ⟨P1, hP1⟩ : ∃ P, P = [] ++ listB r.br := ⟨_, rfl⟩
 obtain ⟨P2, hP2⟩ : ∃ P, P = P1 ++ listB r.tg := ⟨_, rfl⟩
 obtain ⟨P3, hP3⟩ : ∃ P, P = P2 ++ txtRf r.head := ⟨_, rfl⟩
 obtain ⟨P4, hP4⟩ : ∃ P, P = P3 ++ r.at_ := ⟨_, rfl⟩
 obtain ⟨P5, hP5⟩ : ∃ P, P = P4 ++ numF r.log.length := ⟨_, rfl⟩
 have HALL : Hid (writeF r = P5 ++ logB r.log) := Lib.hid (by rw [hP5, hP4, hP3, hP2, hP1]; unfold writeF; simp only [List.append_assoc, List.nil_append])
 have hla := hz.all
 rw [HALL.out] at hla
 have HLE := Lib.hid (lgB_le hla)
 have l5 : P5.length ≤ 1000000000 := by rw [List.length_append] at hla; omega
 have l4 : P4.length ≤ 1000000000 := by rw [hP5, List.length_append] at l5; omega
 have l3 : P3.length ≤ 1000000000 := by rw [hP4, List.length_append] at l4; omega
 have l2 : P2.length ≤ 1000000000 := by rw [hP3, List.length_append] at l3; omega
 have l2' : P1.length + (listB r.tg).length ≤ 1000000000 := by rw [hP2, List.length_append] at l2; exact l2
 have l1' : ([] : List UInt8).length + (listB r.br).length ≤ 1000000000 := by rw [hP1, List.length_append] at l2'; simp at *; omega
 have L1 := Lib.hid l1'
 have L2 := Lib.hid l2'
 have L3 := Lib.hid l2
 have L4 := Lib.hid l3
 have L5 := Lib.hid l4
 have E1 := Lib.hid hP1
 have E2 := Lib.hid hP2
 have E3 := Lib.hid hP3
 have E4 := Lib.hid hP4
 have E5 := Lib.hid hP5
 have HRW := Lib.hid (fun W (hg : WG (w.heap.size + 1) w5 W) => hg.row _ _ _ (by decide) (Nat.ne_of_lt (Nat.lt_succ_self _)) HLD.out.rf)
 have HPW := Lib.hid (fun W (hg : WG (w.heap.size + 1) w5 W) => HLD.out.pens.wg hg)
 have HBW := Lib.hid (fun W (hg : WG (w.heap.size + 1) w5 W) => hg.below HB5.out (Nat.le_succ _) HB5.out.size)
 have HLN : Hid (r.log.length = S.nl) := Lib.hid h.log.1
 have c0 := rf_br HLD.out.rf
 clear h hw5 hz hla l5 l4 l3 l2 l2' l1' hP1 hP2 hP3 hP4 hP5
 go_enter Tryd.func14, Tryd.ntmps14
 go_wp2_with (first
  | ((with_reducible show wpList _ _ _ (⟨some 16, _, _, _, _, _⟩ :: _) _ (World.alloc _ _)); rw [← HW5.out])
  | (go_at_call 34; (with_reducible refine (wnames_any HIN.out.br HB5.out (Nat.le_succ _) HLD.out.pens HLD.out.wr HZ.out.br HZ.out.nb L1.out).mono ?_); rintro e w6 ⟨rfl, hw, hg⟩; rw [← E1.out] at hw; have HW6 := Lib.hid hw; have HG6 := Lib.hid hg; have c1 := rf_tg (HRW.out _ hg); clear hw hg)
  | (go_at_call 34; (with_reducible refine (wnames_any HIN.out.tg (HBW.out _ HG6.out) (Nat.le_succ _) (HPW.out _ HG6.out) HW6.out HZ.out.tg HZ.out.nt L2.out).mono ?_); rintro e w7 ⟨rfl, hw, hg⟩; rw [← E2.out] at hw; have HW7 := Lib.hid hw; have HG7 := Lib.hid (HG6.out.trans hg); have c2 := rf_hd (HRW.out _ HG7.out); have c2f := (HPW.out _ HG7.out).text.cell 0 rfl; clear hw hg)
  | (go_at_call 31; (with_reducible refine (wtext_any HW7.out L3.out (by have := HZ.out.hd; omega)).mono ?_); rintro e w8 ⟨rfl, hw, hg⟩; rw [← E3.out] at hw; have HW8 := Lib.hid hw; have HG8 := Lib.hid (HG7.out.trans hg); have c3f := (HPW.out _ HG8.out).id.cell 0 rfl; clear hw hg)
  | ((with_reducible refine atS 28 ?_); go_must (refine wl_ex rfl (exec_loadIdW _ rfl w.heap.size 3 r.at_ HAT.out rfl (rf_at (HRW.out _ HG8.out))) ?_))
  | (go_at_call 33; (with_reducible refine (wid_any HW8.out L4.out HAT.out).mono ?_); rintro e w9 ⟨rfl, hw, hg⟩; rw [← E4.out] at hw; have HW9 := Lib.hid hw; have HG9 := Lib.hid (HG8.out.trans hg); have c4 := rf_log HAT.out (HRW.out _ HG9.out); have c4f := (HPW.out _ HG9.out).num.cell 0 rfl; clear hw hg)
  | (go_at_call 29; rw [← HLN.out]; (with_reducible refine (wnum_any HW9.out L5.out (by have := HZ.out.lg; omega)).mono ?_); rintro e wa ⟨rfl, hw, hg⟩; rw [← E5.out, lgB_zero P5 r.log] at hw; have HWa := Lib.hid hw; have HGa := Lib.hid (HG9.out.trans hg); have c5 := rf_log HAT.out (HRW.out _ HGa.out); clear hw hg))
 go_loopg [38] S.nl (fun g v38 W => ∃ i : Nat, v38 = .int .i64 i ∧ g + i = S.nl ∧ Hid (Wr W (w.heap.size + 1) (lgB P5 r.log i)) ∧ Hid (WG (w.heap.size + 1) w5 W))
 case atStart => exact ⟨0, rfl, rfl, HWa, HGa⟩
 case round =>
  clear HW6 HG6 HW7 HG7 HW8 HG8 HW9 HG9 HWa HGa c0 c1 c2 c2f c3f c4 c4f c5
  obtain ⟨i, rfl, hg, HWi, HGi⟩ := hrel
  have HG := Lib.hid hg
  have hi0 : (0 : Int) ≤ (i : Int) := by omega
  have hiI : (i : Int) ≤ (S.nl : Int) := by omega
  have hnI : (S.nl : Int) ≤ 100000 := by have h1 := HZ.out.lg; have h2 := HLN.out; omega
  by_cases hi : (i : Int) < (S.nl : Int)
  ·have hin : i < r.log.length := by have := HLN.out; omega
   have HI := Lib.hid hin
   obtain ⟨b, o, hab⟩ := HIN.out.log.some_ (by have := HLN.out; omega)
   obtain ⟨X, hX⟩ : ∃ X, X = gd r.log i := ⟨_, rfl⟩
   have HXO : Hid (UpOk X.upd) := Lib.hid (hX ▸ HIN.out.log.ok (by have := HLN.out; omega))
   have HXo : Hid (X.upd.old.length = 32) := Lib.hid HXO.out.2.1
   have HXn : Hid (X.upd.new.length = 32) := Lib.hid HXO.out.2.2
   have HXS : Hid (X.upd.name.length ≤ 1000 ∧ X.note.length ≤ 1000) := Lib.hid (hX ▸ HZ.out.en _ (gd_mem hin))
   have hlg := HIN.out.log
   rw [hab] at hlg
   have HX1 := Lib.hid (fun W (hW : Below w.heap.size w W) => (hX ▸ (hlg.below hW).at_ i (by have := HLN.out; omega) : W.rangeAt b (o + i * 67) (enL X)))
   have HNX := Lib.hid (lgB_next (P := P5) hin hX)
   have hle := HLE.out (i + 1)
   rw [← HNX.out] at hle
   simp only [List.length_append, List.length_cons, List.length_nil] at hle
   have M0 : Hid ((lgB P5 r.log i ++ [UInt8.ofNat X.upd.kind]).length ≤ 1000000000) := Lib.hid (by simp only [List.length_append, List.length_cons, List.length_nil]; omega)
   have M1 : Hid (((lgB P5 r.log i ++ [UInt8.ofNat X.upd.kind]) ++ txtRf X.upd.name).length ≤ 1000000000) := Lib.hid (by simp only [List.length_append, List.length_cons, List.length_nil]; omega)
   have M2 : Hid ((((lgB P5 r.log i ++ [UInt8.ofNat X.upd.kind]) ++ txtRf X.upd.name) ++ X.upd.old).length ≤ 1000000000) := Lib.hid (by simp only [List.length_append, List.length_cons, List.length_nil]; omega)
   have M3 : Hid (((((lgB P5 r.log i ++ [UInt8.ofNat X.upd.kind]) ++ txtRf X.upd.name) ++ X.upd.old) ++ X.upd.new).length ≤ 1000000000) := Lib.hid (by simp only [List.length_append, List.length_cons, List.length_nil]; omega)
   have HGL : Hid (w.heap.size + 1 < wr.heap.size) := Lib.hid HWi.out.lt
   have HBi := Lib.hid (HBW.out _ HGi.out)
   clear hg hX hlg hle
   rw [hab]
   have HAB := Lib.hid hab
   clear hab
   go_wp2_with (first
    | ((with_reducible refine atS 41 ?_); go_must (refine wl_ex rfl (exec_loadEn _ rfl b (o + i * 67) X HXO.out rfl (HX1.out wr HBi.out)) ?_))
    | ((with_reducible refine atS 9 ?_); go_must (refine wl_alloc_rowz zeroEf rfl rfl ?_); intro w3 hz hb; have HZ3 := Lib.hid hz; have HW3 := Lib.hid (HWi.out.below hb); have HG3 := Lib.hid (HGi.out.trans (WG.of hb)); have HLS : Hid (w5.heap.size ≤ wr.heap.size) := Lib.hid HGi.out.size; clear hz hb; generalize wr.heap.size = gn at HZ3 HLS HGL ⊢)
    | ((with_reducible refine atT 9 ?_); go_must (refine wl_store_rowG HZ3.out (vs := enL X) (by rw [enL_len HXO.out]; kernel_rfl) (by rw [enL_len HXO.out]; rfl) (enL_one X) rfl _ _ rfl rfl rfl ?_); intro w4 hz hg; have HZ4 := Lib.hid hz; have hw4 := HW3.out.grown HZ3.out hg (Nat.ne_of_lt HGL.out) (by decide); have HG4 := Lib.hid (HG3.out.new hg HGL.out HLS.out); obtain ⟨a4, n4, c4, hr4, ho4⟩ := hw4; have HR4 := Lib.hid hr4; have HO4 := Lib.hid ho4; have cs := HR4.out.cell 0 rfl; have ck := HZ4.out.cell 0 rfl; clear hz hg hr4 ho4)
    | (at_builtin; have hb := (Below.refl w4.heap.size w4).alloc (Nat.le_refl _) (.cells #[.int .u8 (X.upd.kind : Int)] U8f); have HBk : Hid (Bytes (w4.alloc (.cells #[.int .u8 (X.upd.kind : Int)] U8f)) (some ⟨w4.heap.size, 0, none⟩) 1 1 [UInt8.ofNat X.upd.kind]) := Lib.hid (by have h1 := bytes_one w4 (UInt8.ofNat X.upd.kind); rw [byte_of HXO.out.1] at h1; exact h1); have HOk := Lib.hid (HO4.out.below hb); have HRk := Lib.hid (HR4.out.below hb); go_must (refine app_bytes rfl _ _ rfl (w.heap.size + 1 + 1) _ (lgB P5 r.log i) rfl HOk.out _ 1 1 _ rfl HBk.out (by have h1 := HLE.out i; omega) HRk.out.lt ?_); intro v6 w6 ho hg; obtain ⟨a6, n6, c6, rfl, _⟩ := ho.bytes; have hw := wrote HRk.out (WG.of hb) HOk.out hg ho; have hr6 := HRk.out.grown hg (row_ne HRk.out HOk.out (by decide)); have c6s := hr6.cell 0 rfl; have f6s := hr6.free 0; obtain ⟨w7, hw7⟩ : ∃ W, w6.setCell ⟨w.heap.size + 1, 0, none⟩ (.slice a6 n6 c6) = W := ⟨_, rfl⟩; rw [hw7] at hw; have HW7 := Lib.hid hw.2.1; have HZ7 := Lib.hid (hw.2.2.row _ _ _ (by decide) (Nat.ne_of_gt HGL.out) HZ4.out); have HG7 := Lib.hid (HG4.out.trans hw.2.2); have c7f := (HPW.out _ HG7.out).text.cell 0 rfl; have c7s := HZ7.out.cell 1 rfl; clear hb hg ho hw hr6)
    | (go_at_call 31; (with_reducible refine (wtext_any HW7.out M0.out (by have := HXS.out.1; omega)).mono ?_); rintro e w8 ⟨rfl, hw, hg⟩; have HW8 := Lib.hid hw; have HZ8 := Lib.hid (hg.row _ _ _ (by decide) (Nat.ne_of_gt HGL.out) HZ7.out); have HG8 := Lib.hid (HG7.out.trans hg); have c8f := (HPW.out _ HG8.out).id.cell 0 rfl; clear hw hg)
    | ((with_reducible refine atS 56 ?_); go_must (refine wl_ex rfl (exec_loadIdW _ rfl gn 2 X.upd.old HXO.out.2.1 rfl (enL_at X HXO.out HZ8.out).1) ?_))
    | (go_at_call 33; (with_reducible refine (wid_any HW8.out M1.out HXo.out).mono ?_); rintro e w9 ⟨rfl, hw, hg⟩; have HW9 := Lib.hid hw; have HZ9 := Lib.hid (hg.row _ _ _ (by decide) (Nat.ne_of_gt HGL.out) HZ8.out); have HG9 := Lib.hid (HG8.out.trans hg); have c9f := (HPW.out _ HG9.out).id.cell 0 rfl; clear hw hg)
    | ((with_reducible refine atS 61 ?_); go_must (refine wl_ex rfl (exec_loadIdW _ rfl gn 34 X.upd.new HXO.out.2.2 rfl (enL_at X HXO.out HZ9.out).2.1) ?_))
    | (go_at_call 33; (with_reducible refine (wid_any HW9.out M2.out HXn.out).mono ?_); rintro e wa ⟨rfl, hw, hg⟩; have HWa := Lib.hid hw; have HZa := Lib.hid (hg.row _ _ _ (by decide) (Nat.ne_of_gt HGL.out) HZ9.out); have HGa := Lib.hid (HG9.out.trans hg); have caf := (HPW.out _ HGa.out).text.cell 0 rfl; have can := (enL_at X HXO.out HZa.out).2.2; clear hw hg)
    | (go_at_call 31; (with_reducible refine (wtext_any HWa.out M3.out (by have := HXS.out.2; omega)).mono ?_); rintro e wb ⟨rfl, hw, hg⟩; rw [HNX.out] at hw; have HWb := Lib.hid hw; have HGb := Lib.hid (HGa.out.trans hg); clear hw hg))
   rw [← HAB.out]
   go_roundg (S.nl - (i + 1))
   case measure => have h1 := HG.out; have h2 := HI.out; have h3 := HLN.out; omega
   case rel => exact ⟨i + 1, by go_num, by have h2 := HI.out; have h3 := HLN.out; omega, HWb, HGb⟩
  ·have hin : i = S.nl := by omega
   have HE : Hid (Wr wr (w.heap.size + 1) (writeF r)) := Lib.hid (by
    have h1 := HWi.out
    rw [hin, ← HLN.out] at h1
    unfold lgB at h1
    rw [List.take_length] at h1
    rw [HALL.out]; exact h1)
   obtain ⟨ae, ne, ce, hre, hoe⟩ := HE.out
   have HOE := Lib.hid hoe
   have ce0 := hre.cell 0 rfl
   clear hg hre hoe
   go_wp2
   go_ret
   exact ⟨ae, ne, ce, rfl, HOE.out.mono (Nat.le_trans (Nat.le_succ _) (Nat.le_succ _)), HBW.out _ HGi.out⟩
end Go.Proofs.YthihmlojdopmfaaDoor
