/-
  Names put behind the bytes in their box.
-/
import Derived.Test.YtjjnbigfdonjlaaDoorGrp16
namespace Go.Proofs.YtjjnbigfdonjlaaDoor
open Go.RowKit

abbrev FIf : TypeId := 76
abbrev FSf : TypeId := 78
abbrev FDf : TypeId := 79
/-- The boxes of the three writers. -/
structure Pens (w : World) (gb g4 g5 g6 : Nat) : Prop where
  num : RowAt w g4 FIf [.func (.func 30) #[] #[.pointer (some ⟨gb, 0, none⟩)]]
  text : RowAt w g5 FSf [.func (.func 32) #[] #[.pointer (some ⟨gb, 0, none⟩)]]
  id : RowAt w g6 FDf [.func (.func 34) #[] #[.pointer (some ⟨gb, 0, none⟩)]]
  n4 : g4 ≠ gb
  n5 : g5 ≠ gb
  n6 : g6 ≠ gb
theorem Pens.wg {w w' : World} {gb g4 g5 g6 : Nat} (h : Pens w gb g4 g5 g6) (hg : WG gb w w') : Pens w' gb g4 g5 g6 :=
  ⟨hg.row _ _ _ (by decide) h.n4 h.num, hg.row _ _ _ (by decide) h.n5 h.text, hg.row _ _ _ (by decide) h.n6 h.id, h.n4, h.n5, h.n6⟩
theorem wl_store_rowG {E : TypeId} {vs : List Value} {w : World} {g : Nat} {us : List Value} (hR : RowAt w g E us) (hk : (Tryd.prog.info? E).map (·.size) = some vs.length) (hl : us.length = vs.length) (h1 : ∀ v ∈ vs, v.oneCell' = true)
    {ops : Array Oper} {rest : List Oper} {o : Oper} {ac : Act} {Q : Exit → Act → World → Prop} (hgd : o.guard = none) (x y : Operand) (ho : o.op = .store E x y)
    (hx : ac.eval x = .pointer (some ⟨g, 0, none⟩)) (hy : ac.eval y = .agg vs.toArray)
    (hQ : ∀ W, RowAt W g E vs → w.grownBy W (some g) → wpList Tryd.prog ops Q rest (ac.put o.dst undef) W) : wpList Tryd.prog ops Q (o :: rest) ac w := by
  refine wpList_store_row hgd E x y ho g vs.toArray hx hy E us.toArray hR (by rw [List.size_toArray]; exact hk) (by simp [hl]) ?_ (hQ _ (setRow_heap _ _ us.toArray vs.toArray _ _ hR) ?_)
  · rw [Array.all_eq_true_iff_forall_mem]
    intro v hv
    exact h1 v (by simpa using hv)
  · refine ⟨rfl, rfl, rfl, by simp [World.setRow], fun k hk hne => ?_⟩
    unfold World.setRow
    rw [Array.getElem?_modify, if_neg (fun e => hne (by rw [e]))]
theorem exec_loadIdW {w : World} {o : Oper} {a : Act} (x : Operand) (ho : o.op = .load 24 x) (b off : Nat) (l : List UInt8) (hl : l.length = 32) (hx : a.eval x = .pointer (some ⟨b, off, none⟩)) (hc : w.rangeAt b off (l.map B)) :
    (execOp a.eval o).run Tryd.prog w = .ok (.value (.agg (idCells l))) w := by
  have hr := run_loadVar_mid (P := Tryd.prog) w b off 24 (l.map B) _ hc Tryd.underlying24 rfl (by rw [List.length_map, hl]; kernel_rfl)
  unfold execOp
  simp only [ho, hx, Instr.loadAt, Instr.sureAddr, Sem.run_bind, Sem.run_pure, Result.andThen_ok, hr]
  rfl
/-- A new block is stored into: what was there stands. -/
theorem WG.new {gb g : Nat} {w w1 w2 : World} (h : WG gb w w1) (hg : w1.grownBy w2 (some g)) (_h1 : gb < g) (_h2 : w.heap.size ≤ g) : WG gb w w2 :=
  ⟨hg.os.trans h.os, hg.tape.trans h.tape, hg.output.trans h.output, Nat.le_trans h.size hg.size, fun k hk hb => (hg.block k (Nat.lt_of_lt_of_le hk h.size) (fun e => by have := Option.some.inj e; omega)).trans (h.low k hk hb),
    fun k E cs hE hk hr => (h.row k E cs hE hk hr).grown hg (fun e => by have := Option.some.inj e; have := hr.lt; omega)⟩
theorem Wr.grown {w w' : World} {gb g : Nat} {E : TypeId} {cs : List Value} {L : List UInt8} (h : Wr w gb L) (hr : RowAt w g E cs) (hg : w.grownBy w' (some g)) (h1 : gb ≠ g) (hE : E ≠ U8f) : Wr w' gb L := by
  obtain ⟨a, n, c, hr1, ho⟩ := h
  exact ⟨a, n, c, hr1.grown hg (fun e => h1 (Option.some.inj e)), (Own.toW ho).kept hg (.inr (row_ne hr ho hE).symm) |>.ofW⟩
theorem Wr.lt {w : World} {gb : Nat} {L : List UInt8} (h : Wr w gb L) : gb < w.heap.size := by
  obtain ⟨a, n, c, hr1, ho⟩ := h
  exact hr1.lt
theorem namesB_app (L M : List RName) : namesB (L ++ M) = namesB L ++ namesB M := by simp [namesB]
theorem namesB_le (N : List RName) (i : Nat) : (namesB (N.take i)).length ≤ (namesB N).length := by
  have := congrArg (fun l => (namesB l).length) (List.take_append_drop i N)
  simp only [namesB_app, List.length_append] at this
  omega
theorem take_gd {α : Type} [Inhabited α] {L : List α} {i : Nat} (h : i < L.length) : L.take (i + 1) = L.take i ++ [gd L i] := by
  rw [List.take_add_one]
  congr 1
  unfold gd
  simp [h]
def nsB (L : List UInt8) (N : List RName) (i : Nat) : List UInt8 := L ++ (numF N.length ++ namesB (N.take i))
theorem nsB_zero (L : List UInt8) (N : List RName) : L ++ numF N.length = nsB L N 0 := by simp [nsB, namesB]
theorem nsB_next {L : List UInt8} {N : List RName} {i : Nat} {X : RName} (h : i < N.length) (hX : X = gd N i) : (nsB L N i ++ txtRf X.1) ++ X.2 = nsB L N (i + 1) := by
  unfold nsB
  rw [take_gd h, namesB_snoc, ← hX]
  simp only [nameB, List.append_assoc]
theorem nsB_end {L : List UInt8} {N : List RName} : nsB L N N.length = L ++ listB N := by unfold nsB listB; rw [List.take_length]
theorem nsB_le {L : List UInt8} {N : List RName} {k : Nat} (h : L.length + (listB N).length ≤ k) (i : Nat) : (nsB L N i).length ≤ k := by
  have := namesB_le N i
  unfold listB at h
  unfold nsB
  simp only [List.length_append] at *
  omega

set_option maxRecDepth 100000 in
set_option maxHeartbeats 4000000 in
theorem wnames_any {w0 w : World} {gb g4 g5 g6 n c : Nat} {a : Option Addr} {N : List RName} {L : List UInt8} (hA : AtG rnK w0 a n c N) (hB : Below w0.heap.size w0 w) (hgb : w0.heap.size ≤ gb) (hP : Pens w gb g4 g5 g6) (h : Wr w gb L) (hn : N.length ≤ 100000) (hx : ∀ x ∈ N, x.1.length ≤ 1000) (hl : L.length + (listB N).length ≤ 1000000000) :
    Calls Tryd.prog 35 #[.slice a n c, .pointer (some ⟨g4, 0, none⟩), .pointer (some ⟨g5, 0, none⟩), .pointer (some ⟨g6, 0, none⟩)] w (Wrote gb (L ++ listB N) w) := by
  obtain rfl : N.length = n := hA.1
  have HA := Lib.hid hA
  have HB := Lib.hid hB
  have HGB := Lib.hid hgb
  have HP := Lib.hid hP
  have HW := Lib.hid h
  have HX := Lib.hid hx
  have HLE := Lib.hid (nsB_le hl)
  have HL0 : Hid (L.length ≤ 1000000000) := Lib.hid (by omega)
  have HN := Lib.hid hn
  have c4 := hP.num.cell 0 rfl
  have hnI : (N.length : Int) ≤ 100000 := by omega
  clear hA hB hgb hP h hx hl hn
  go_enter Tryd.func35, Tryd.ntmps35
  go_wp2_with (go_at_call 30; go_must (refine (wnum_any HW.out HL0.out (by have := HN.out; omega)).mono ?_); rintro e w1 ⟨rfl, hw, hg⟩; rw [nsB_zero] at hw; have HW1 := Lib.hid hw; have HG1 := Lib.hid hg; clear hw hg)
  go_loopg [13] N.length (fun g v13 W => ∃ i : Nat, v13 = .int .i64 i ∧ g + i = N.length ∧ Hid (Wr W gb (nsB L N i)) ∧ Hid (WG gb w W))
  case atStart => exact ⟨0, rfl, rfl, HW1, HG1⟩
  case round =>
    clear HW1 HG1
    obtain ⟨i, rfl, hg, HWi, HGi⟩ := hrel
    have HG := Lib.hid hg
    have hi0 : (0 : Int) ≤ (i : Int) := by omega
    have hiI : (i : Int) ≤ (N.length : Int) := by omega
    by_cases hi : (i : Int) < (N.length : Int)
    · have hin : i < N.length := by omega
      have HI := Lib.hid hin
      obtain ⟨b, o, rfl⟩ := HA.out.some_ (by omega)
      obtain ⟨X, hX⟩ : ∃ X, X = gd N i := ⟨_, rfl⟩
      have HXO : Hid (X.2.length = 32) := Lib.hid (hX ▸ HA.out.ok hin)
      have HXS : Hid (X.1.length ≤ 1000) := Lib.hid (hX ▸ HX.out _ (gd_mem hin))
      have HX1 := Lib.hid (fun W (hW : Below w0.heap.size w0 W) => (hX ▸ (HA.out.below hW).at_ i hin : W.rangeAt b (o + i * 33) (rnL X)))
      have HNX : Hid ((nsB L N i ++ txtRf X.1) ++ X.2 = nsB L N (i + 1)) := Lib.hid (nsB_next hin hX)
      have HL1 : Hid ((nsB L N i ++ txtRf X.1).length ≤ 1000000000) := Lib.hid (by
        have h1 := HLE.out (i + 1)
        rw [← HNX.out, List.length_append] at h1
        omega)
      have HBi := Lib.hid (HGi.out.below HB.out HGB.out HB.out.size)
      have HGL : Hid (gb < wr.heap.size) := Lib.hid HWi.out.lt
      clear hg hX
      go_wp2_with (first
        | ((with_reducible show wpList _ _ _ (⟨some 16, _, _, _, _, _⟩ :: _) _ _); go_must (refine wl_ex rfl (exec_loadRn _ rfl b (o + i * 33) X HXO.out rfl (HX1.out wr HBi.out)) ?_))
        | ((with_reducible show wpList _ _ _ (⟨some 6, _, _, _, _, _⟩ :: _) _ _); go_must (refine wl_alloc_rowz zeroNf rfl rfl ?_); intro w3 hz hb; have HZ3 := Lib.hid hz; have HW3 := Lib.hid (HWi.out.below hb); have HG3 := Lib.hid (HGi.out.trans (WG.of hb)); have HLS : Hid (w.heap.size ≤ wr.heap.size) := Lib.hid HGi.out.size; clear hz hb; generalize wr.heap.size = gn at HZ3 HLS HGL ⊢)
        | ((with_reducible show wpList _ _ _ (⟨_, Op.store _ (.tmp 6) _, _, _, _, _⟩ :: _) _ _); go_must (refine wl_store_rowG HZ3.out (vs := rnL X) (by rw [rnL_len HXO.out]; kernel_rfl) (by rw [rnL_len HXO.out]; rfl) (rnL_one X) rfl _ _ rfl rfl rfl ?_); intro w4 hz hg; have HZ4 := Lib.hid hz; have HW4 := Lib.hid (HW3.out.grown HZ3.out hg (Nat.ne_of_lt HGL.out) (by decide)); have HG4 := Lib.hid (HG3.out.new hg HGL.out HLS.out); have HP4 := Lib.hid (HP.out.wg HG4.out); have c5 := HP4.out.text.cell 0 rfl; have cn := HZ4.out.cell 0 rfl; clear hz hg)
        | (go_at_call 32; go_must (refine (wtext_any HW4.out (HLE.out i) (by have := HXS.out; omega)).mono ?_); rintro e w5 ⟨rfl, hw, hg⟩; have HW5 := Lib.hid hw; have HG5 := Lib.hid (HG4.out.trans hg); have HZ5 := Lib.hid (hg.row _ _ _ (by decide) (Nat.ne_of_gt HGL.out) HZ4.out); have HP5 := Lib.hid (HP.out.wg HG5.out); have c6 := HP5.out.id.cell 0 rfl; clear hw hg)
        | ((with_reducible show wpList _ _ _ (⟨some 23, _, _, _, _, _⟩ :: _) _ _); go_must (refine wl_ex rfl (exec_loadIdW _ rfl gn 1 X.2 HXO.out rfl (HZ5.out.range (l := [.string (strB X.1)]) (m := X.2.map B) (r := []) (by rw [List.append_nil]; rfl))) ?_))
        | (go_at_call 34; go_must (refine (wid_any HW5.out HL1.out HXO.out).mono ?_); rintro e w6 ⟨rfl, hw, hg⟩; rw [HNX.out] at hw; have HW6 := Lib.hid hw; have HG6 := Lib.hid (HG5.out.trans hg); clear hw hg))
      go_roundg (N.length - (i + 1))
      case measure => have := HG.out; have := HI.out; omega
      case rel => exact ⟨i + 1, by go_num, by have := HI.out; omega, HW6, HG6⟩
    · have hin : i = N.length := by omega
      have HE : Hid (Wr wr gb (L ++ listB N)) := Lib.hid (by rw [← nsB_end, ← hin]; exact HWi.out)
      clear hg
      go_wp2
      exact bodyPost_end (results_none rfl _ _ _) rfl ⟨rfl, HE.out, HGi.out⟩
#print axioms wnames_any
end Go.Proofs.YtjjnbigfdonjlaaDoor
