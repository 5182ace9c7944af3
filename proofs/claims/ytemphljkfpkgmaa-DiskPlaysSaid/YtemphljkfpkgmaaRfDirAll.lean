/-
  Merged: RefDir, RefTurn.
-/
import Derived.Test.YtemphljkfpkgmaaSliceG
import Derived.Test.YtemphljkfpkgmaaBytes
import Derived.Test.YtemphljkfpkgmaaDkMathAll
import Derived.Great.BuildSlice
import Derived.Deep.LoopGhost
import Derived.Sort.Walk0
import Derived.Deep.QuietTactic
import Derived.BigQuiet
import Derived.StillTailTactics
import Derived.WalkMore
namespace Go.Proofs.Ytemphljkfpkgmaa
open Go.RowKit

instance : Inhabited (Nm × Nat) := ⟨([], 0)⟩
/-- An entry: its name, its file. -/
def entK : Kind (Nm × Nat) := ⟨fun x => [.string (strB x.1), .int .i64 (x.2 : Int)], 2, fun _ => True, by decide, fun _ _ => rfl, fun x _ v hv => by
  simp only [List.mem_cons, List.not_mem_nil, or_false] at hv
  rcases hv with rfl | rfl <;> rfl⟩
theorem entInfo : (Try.prog.info? 67).map (fun i => (i.zero, i.size, i.bytes)) = some (some (.agg #[.string ByteArray.empty, .int .i64 0]), 2, 24) := by kernel_rfl
theorem ent_eq (a b : Nm) : ((strB a).toList == (strB b).toList) = decide (a = b) := by
  rw [ByteArray.toList_eq, ByteArray.toList_eq, strB_list, strB_list]
  by_cases h : a = b <;> simp [h]

set_option maxRecDepth 100000 in
set_option maxHeartbeats 400000 in
theorem refMay_any (s : Nm) (W : World) : Calls Try.prog 54 #[.string (strB s)] W fun e w' => e = .returned (.bool (mayN s)) ∧ W = w' := by
  have hs := strB_size s
  by_cases h1 : (1 : Int) ≤ (s.length : Int)
  · by_cases h2 : (s.length : Int) ≤ 80
    · have e : mayN s = true := by unfold mayN; simp; omega
      rw [e]
      clear e
      go_enter Try.func54, Try.ntmps54
      go_wp2
      go_ret
      exact ⟨rfl, rfl⟩
    · have e : mayN s = false := by unfold mayN; simp; omega
      rw [e]
      clear e
      go_enter Try.func54, Try.ntmps54
      go_wp2
      go_ret
      exact ⟨rfl, rfl⟩
  · have e : mayN s = false := by unfold mayN; simp; omega
    rw [e]
    clear e
    go_enter Try.func54, Try.ntmps54
    go_wp2
    go_ret
    exact ⟨rfl, rfl⟩

/-- What look answers. -/
def lookZ (L : Dir) (s : Nm) : Int := match look L s with | none => -1 | some k => (k : Int)
theorem look_drop {L : Dir} {s : Nm} {i : Nat} (hi : i < L.length) : look (L.drop i) s = if (gd L i).1 = s then some (gd L i).2 else look (L.drop (i + 1)) s := by
  rw [List.drop_eq_getElem_cons hi]
  have e : gd L i = L[i] := by unfold gd; simp [hi]
  rw [e]
  rfl
set_option maxRecDepth 100000 in
set_option maxHeartbeats 1000000 in
theorem refLook_any (a : Option Addr) (n c : Nat) (L : Dir) (s : Nm) (w : World) (h : AtG entK w a n c L) :
    Calls Try.prog 37 #[.slice a n c, .string (strB s)] w fun e w' => e = .returned (.int .i64 (lookZ L s)) ∧ Below w.heap.size w w' := by
  have HL := Lib.hid h.1
  have HN := Lib.hid h
  have hc := h.2.2.1
  have hnc := h.2.1
  have hnI : (n : Int) ≤ 9223372036854775807 := by omega
  clear h hc hnc
  go_enter Try.func37, Try.ntmps37
  go_wp2
  go_loopg [5] n (fun g v5 W => ∃ i : Nat, Below w.heap.size w W ∧ v5 = .int .i64 i ∧ g + i = n ∧ Hid (look L s = look (L.drop i) s))
  case atStart => exact ⟨0, Below.refl _ _, rfl, rfl, Lib.hid rfl⟩
  case round =>
    obtain ⟨i, hbw, rfl, hg, HE⟩ := hrel
    have HG := Lib.hid hg
    have HB := Lib.hid hbw
    have hi0 : (0 : Int) ≤ (i : Int) := by omega
    have hiI : (i : Int) ≤ (n : Int) := by omega
    by_cases hi : (i : Int) < (n : Int)
    · have hin : i < n := by omega
      have HI := Lib.hid hin
      obtain ⟨b, o, rfl⟩ := HN.out.some_ (by omega)
      have c0 := (HN.out.below hbw).cell i hin 0 (.string (strB (gd L i).1)) rfl
      have c1 := (HN.out.below hbw).cell i hin 1 (.int .i64 ((gd L i).2 : Int)) rfl
      have HD := Lib.hid (look_drop (s := s) (show i < L.length by rw [HL.out]; exact hin))
      have ee := ent_eq (gd L i).1 s
      have hk2 : entK.k = 2 := rfl
      rw [hk2] at c0 c1
      rw [Nat.add_zero] at c0
      clear hk2
      obtain ⟨y, hy⟩ : ∃ y, y = gd L i := ⟨_, rfl⟩
      rw [← hy] at c0 c1 HD ee
      obtain ⟨t, k⟩ := y
      clear hg hy hin
      by_cases hts : t = s
      · have e1 : ((strB t).toList == (strB s).toList) = true := by rw [ee]; simp [hts]
        have HR := Lib.hid (show lookZ L s = (k : Int) by unfold lookZ; rw [HE.out, HD.out, if_pos hts])
        clear ee hts
        go_wp2
        (try rw [Exit.noGoto_ret])
        go_ret
        exact ⟨by rw [HR.out]; rfl, HB.out⟩
      · have e1 : ((strB t).toList == (strB s).toList) = false := by rw [ee]; simp [hts]
        have HE2 := Lib.hid (show look L s = look (L.drop (i + 1)) s by rw [HE.out, HD.out, if_neg hts])
        clear ee hts
        go_wp2
        go_roundg (n - (i + 1))
        case measure => have := HG.out; have := HI.out; omega
        case rel => exact ⟨i + 1, HB.out, by go_num, by have := HG.out; have := HI.out; omega, HE2⟩
    · have HR := Lib.hid (show lookZ L s = -1 by
        unfold lookZ
        rw [HE.out, List.drop_eq_nil_of_le (by rw [HL.out]; omega)]
        rfl)
      clear hg
      go_wp2
      go_ret
      exact ⟨by rw [HR.out]; rfl, HB.out⟩

theorem without_take {L : Dir} {s : Nm} {i : Nat} (hi : i < L.length) : without (L.take (i + 1)) s = without (L.take i) s ++ (if (gd L i).1 = s then [] else [gd L i]) := by
  have e : L.take (i + 1) = L.take i ++ [gd L i] := by
    rw [List.take_succ_eq_append_getElem hi]
    unfold gd
    simp [hi]
  unfold without
  rw [e, List.filter_append]
  congr 1
  by_cases h : (gd L i).1 = s <;> simp [h]
theorem without_len (L : Dir) (s : Nm) : (without L s).length ≤ L.length := List.length_filter_le _ _
theorem fill_ent (x : Nm × Nat) (z : Value) (hz : z = .agg #[.string ByteArray.empty, .int .i64 0]) : Instr.fill (fun i => some (i * 2, 2)) ((Array.range (1 * 2)).map (z.cells[· % z.cells.size]!)) [(0, .agg (entK.cells x).toArray)] = some (entK.cells x).toArray := by
  subst hz
  kernel_rfl
/-- A slice literal of one entry. -/
theorem wp_sl_ent {o : Oper} {a : Act} {w : World} {K : Act → World → Prop} {Q : Exit → Act → World → Prop} (x : Operand) (ho : o.op = .buildSlice 28 1 #[(0, x)]) (X : Nm × Nat) (hx : a.eval x = .agg (entK.cells X).toArray)
    (h : K (a.put o.dst (.slice (some ⟨w.heap.size, 0, none⟩) 1 1)) (w.alloc (.cells (entK.cells X).toArray 67))) : o.wp Try.prog a w K Q := by
  obtain ⟨i0, hi, hz0, hz1, hz2⟩ := info_parts entInfo
  refine wp_buildSlice 28 67 1 #[(0, x)] ho (entK.cells X).toArray i0 _ Try.underlying28 hi hz0 (by rw [hz1]; decide) (by rw [hz1]; decide) ?_ h
  rw [hz1]
  have e : (#[(0, x)].map fun (p : Nat × Operand) => (p.1, a.eval p.2)).toList = [(0, .agg (entK.cells X).toArray)] := by simp [hx]
  exact (congrArg (Instr.fill (fun i => some (i * 2, 2)) _) e).trans (fill_ent X _ rfl)

set_option maxRecDepth 100000 in
set_option maxHeartbeats 1000000 in
theorem refWithout_any (a : Option Addr) (n c : Nat) (L : Dir) (s : Nm) (w : World) (h : AtG entK w a n c L) (hn : n ≤ 100000000) :
    Calls Try.prog 55 #[.slice a n c, .string (strB s)] w fun e w' => ∃ a1 m c1, e = .returned (.slice a1 m c1) ∧ OwnG entK 67 w' w.heap.size (.slice a1 m c1) (without L s) ∧ Below w.heap.size w w' := by
  have HL := Lib.hid h.1
  have HN := Lib.hid h
  have hnI : (n : Int) ≤ 100000000 := by omega
  have HM := Lib.hid hn
  clear h hn
  go_enter Try.func55, Try.ntmps55
  go_wp2
  go_loopg [5, 6] n (fun g v5 v6 W => ∃ (i m : Nat) (a1 : Option Addr) (c1 : Nat), Below w.heap.size w W ∧ v6 = .int .i64 i ∧ v5 = .slice a1 m c1 ∧ g + i = n ∧ Hid (OwnG entK 67 W w.heap.size (.slice a1 m c1) (without (L.take i) s)))
  case atStart => exact ⟨0, 0, none, 0, Below.refl _ _, rfl, rfl, rfl, Lib.hid OwnG.nil⟩
  case round =>
    obtain ⟨i, m, a1, c1, hbw, rfl, rfl, hg, HO⟩ := hrel
    have HG := Lib.hid hg
    have HB := Lib.hid hbw
    have hi0 : (0 : Int) ≤ (i : Int) := by omega
    have hiI : (i : Int) ≤ (n : Int) := by omega
    by_cases hi : (i : Int) < (n : Int)
    · have hin : i < n := by omega
      have HI := Lib.hid hin
      obtain ⟨b, o, rfl⟩ := HN.out.some_ (by omega)
      have c0 := (HN.out.below hbw).cell i hin 0 (.string (strB (gd L i).1)) rfl
      have c1' := (HN.out.below hbw).cell i hin 1 (.int .i64 ((gd L i).2 : Int)) rfl
      have HD := Lib.hid (without_take (s := s) (show i < L.length by rw [HL.out]; exact hin))
      have ee := ent_eq (gd L i).1 s
      have hk2 : entK.k = 2 := rfl
      rw [hk2] at c0 c1'
      rw [Nat.add_zero] at c0
      have HML := Lib.hid (show m + 1 = (without (L.take i) s).length + 1 by rw [HO.out.len])
      have H48 := Lib.hid (show ((without (L.take i) s).length + 1) * (24 + 1) ≤ 140737488355328 by
        have h1 := without_len (L.take i) s
        rw [List.length_take] at h1
        have := HM.out
        omega)
      clear hk2
      obtain ⟨y, hy⟩ : ∃ y, y = gd L i := ⟨_, rfl⟩
      rw [← hy] at c0 c1' HD ee
      obtain ⟨t, k⟩ := y
      clear hg hy hin
      by_cases hts : t = s
      · have e1 : ((strB t).toList == (strB s).toList) = true := by rw [ee]; simp [hts]
        have e2 : ((strB t).toList != (strB s).toList) = false := by simp [bne, e1]
        have HO2 : Hid (OwnG entK 67 wr w.heap.size (.slice a1 m c1) (without (L.take (i + 1)) s)) := Lib.hid (by rw [HD.out, if_pos hts, List.append_nil]; exact HO.out)
        clear ee hts
        go_wp2
        go_roundg (n - (i + 1))
        case measure => have := HG.out; have := HI.out; omega
        case rel => exact ⟨i + 1, m, a1, c1, HB.out, by go_num, rfl, by have := HG.out; have := HI.out; omega, HO2⟩
      · have e1 : ((strB t).toList == (strB s).toList) = false := by rw [ee]; simp [hts]
        have e2 : ((strB t).toList != (strB s).toList) = true := by simp [bne, e1]
        have HNE := Lib.hid hts
        clear ee hts
        go_wp2_with (first
          | (refine wpList_plain rfl (fun K hK => wp_sl_ent _ rfl (t, k) rfl (hK _ _ ?_)))
          | (at_builtin; go_must (refine appG entK Try.underlying28 entInfo rfl rfl _ _ rfl w.heap.size _ (without (L.take i) s) rfl (HO.out.alloc _) _ 1 1 [(t, k)] rfl (oneG _ (t, k) trivial _ _ rfl) H48.out (Nat.le_trans HB.out.size (by simp)) (m + 1) HML.out ?_); intro a2 c2 W7 ho2 hg2))
        go_roundg (n - (i + 1))
        case measure => have := HG.out; have := HI.out; omega
        case rel =>
          refine ⟨i + 1, m + 1, a2, c2, (HB.out.alloc HB.out.size _).grown hg2 (Nat.le_trans HB.out.size (by simp)) (fun g hg => (HO.out.lt g hg).1), by go_num, rfl, by have := HG.out; have := HI.out; omega, Lib.hid ?_⟩
          rw [HD.out, if_neg HNE.out]
          exact ho2
    · have hin : i = n := by omega
      subst hin
      have HF : Hid (OwnG entK 67 wr w.heap.size (.slice a1 m c1) (without L s)) := Lib.hid (by
        have h := HO.out
        rwa [List.take_of_length_le (by rw [HL.out]; omega)] at h)
      clear hg
      go_wp2
      go_ret
      exact ⟨a1, m, c1, rfl, HF.out, HB.out⟩
#print axioms refLook_any
#print axioms refWithout_any
end Go.Proofs.Ytemphljkfpkgmaa

namespace Go.Proofs.Ytemphljkfpkgmaa
open Go.RowKit

section
variable {α : Type} [Inhabited α] {K : Kind α} {E : TypeId} {w : World} {base : Nat} {L : List α} {a : Option Addr} {n c : Nat}
omit [Inhabited α] in
theorem OwnG.form (h : OwnG K E w base (.slice a n c) L) : (a = none ∧ n = 0 ∧ c = 0) ∨ ∃ g, a = some ⟨g, 0, none⟩ := by
  obtain ⟨⟨h1, h2⟩, _⟩ := h
  rcases h2 with ⟨hv, hz⟩ | ⟨g, cap, cur, hv, _⟩
  · simp only [Value.slice.injEq] at hv
    exact .inl ⟨hv.1, hv.2.1, hv.2.2⟩
  · simp only [Value.slice.injEq] at hv
    exact .inr ⟨g, hv.1⟩
theorem AtG.take {b o : Nat} (h : AtG K w (some ⟨b, o, none⟩) n c L) {i : Nat} (hi : i ≤ n) : AtG K w (some ⟨b, o, none⟩) i c (L.take i) := by
  have hl := h.1
  have h2 := h.2.1
  refine ⟨by rw [List.length_take]; omega, by omega, h.2.2.1, fun x hx => h.2.2.2.1 x (List.mem_of_mem_take hx), ?_⟩
  by_cases h0 : c = 0
  · exact .inl ⟨by omega, h0⟩
  · refine .inr ⟨b, o, rfl, fun j hj => ?_⟩
    have e : gd (L.take i) j = gd L j := by unfold gd; simp [List.getD, hj]
    rw [e]
    exact h.at_ j (by omega)
theorem AtG.drop {b o : Nat} (h : AtG K w (some ⟨b, o, none⟩) n c L) {i : Nat} (hi : i ≤ n) : AtG K w (some ⟨b, o + i * K.k, none⟩) (n - i) (c - i) (L.drop i) := by
  have hl := h.1
  have h2 := h.2.1
  have h3 := h.2.2.1
  refine ⟨by rw [List.length_drop]; omega, by omega, by omega, fun x hx => h.2.2.2.1 x (List.mem_of_mem_drop hx), ?_⟩
  refine .inr ⟨b, o + i * K.k, rfl, fun j hj => ?_⟩
  have e : gd (L.drop i) j = gd L (i + j) := by unfold gd; simp [List.getD, List.getElem?_drop]
  rw [e]
  have := h.at_ (i + j) (by omega)
  rwa [Nat.add_mul, ← Nat.add_assoc] at this
end

theorem AtG.empty {α : Type} [Inhabited α] {K : Kind α} {w : World} {b o c : Nat} (hc : c ≤ 9223372036854775807) : AtG K w (some ⟨b, o, none⟩) 0 c [] := ⟨rfl, Nat.zero_le _, hc, (fun _ h => by cases h), .inr ⟨b, o, rfl, fun j hj => by omega⟩⟩
theorem below_drewS {base : Nat} {w w' : World} (h : Below base w w') (n : Nat) : Below base w (w'.drewN n) := ⟨h.os, h.tape, h.output, h.size, h.block⟩
/-- An act's cells. -/
abbrev ractC (a : DAct) : Array Value := #[.string (strB a.src), .string (strB a.dst), .int .i64 (a.file : Int)]
theorem box_ract (w : World) (a : DAct) (ty : TypeId) (W : World) (hb : Below (w.alloc (.cells (ractC a) ty)).heap.size (w.alloc (.cells (ractC a) ty)) W) :
    W.cell? ⟨w.heap.size, 0, none⟩ = some (.string (strB a.src)) ∧ W.cell? ⟨w.heap.size, 1, none⟩ = some (.string (strB a.dst)) ∧ W.cell? ⟨w.heap.size, 2, none⟩ = some (.int .i64 (a.file : Int)) := by
  refine ⟨?_, ?_, ?_⟩ <;> (rw [hb.cell (by simp), World.cell?_alloc_new]; rfl)
/-- Where it goes in. -/
theorem ins_at : ∀ {l : Dir} {s : Nm} {f i : Nat}, i ≤ l.length → (∀ j, j < i → (gd l j).1 < s) → (i < l.length → ¬ (gd l i).1 < s) → ins l s f = l.take i ++ (s, f) :: l.drop i
  | [], s, f, i, hi, _, _ => by
    obtain rfl : i = 0 := by simpa using hi
    rfl
  | (n, g) :: r, s, f, 0, _, _, h2 => by
    have : ¬ n < s := h2 (by simp)
    show (if n < s then _ else _) = _
    rw [if_neg this]
    rfl
  | (n, g) :: r, s, f, i + 1, hi, h1, h2 => by
    have h3 : n < s := h1 0 (by omega)
    show (if n < s then _ else _) = _
    rw [if_pos h3, ins_at (i := i) (by simpa using hi) (fun j hj => h1 (j + 1) (by omega)) (fun h => h2 (by simpa using h))]
    rfl
theorem less_eq (a b : Nm) : Op.bytesLess (strB a).toList (strB b).toList = decide (a < b) := by
  rw [bytesLess_eq, ByteArray.toList_eq, ByteArray.toList_eq, strB_list, strB_list]

set_option maxRecDepth 100000 in
set_option maxHeartbeats 2000000 in
theorem refTurned_any (a : Option Addr) (n c : Nat) (L : Dir) (x : DAct) (w w0 : World) (hw0 : w0 = w.alloc (.cells (ractC x) 81)) (h : AtG entK w0 a n c L) (hn : n ≤ 10000000) :
    Calls Try.prog 38 #[.slice a n c, .agg (ractC x)] w fun e w' => ∃ a1 m c1, e = .returned (.slice a1 m c1) ∧ OwnG entK 67 w' w.heap.size (.slice a1 m c1) (turnD L x) ∧ Below w.heap.size w w' := by
  have HB0 := Lib.hid (show Below w.heap.size w w0 from hw0 ▸ (Below.refl w.heap.size w).alloc (Nat.le_refl _) _)
  have KC := Lib.hid (fun W (hb : Below w0.heap.size w0 W) => box_ract w x 81 W (hw0 ▸ hb))
  obtain ⟨k0, k1, k2⟩ := KC.out w0 (Below.refl _ _)
  have hAl := hw0.symm
  have HS0 := Lib.hid (show w.heap.size ≤ w0.heap.size by rw [hw0]; simp)
  have HL := Lib.hid h.1
  have HM := Lib.hid hn
  have W1 := Lib.hid (refWithout_any a n c L x.src w0 h (by omega))
  have ed := strB_size x.dst
  by_cases hd : x.dst = []
  · have HE := Lib.hid (show turnD L x = without L x.src by unfold turnD; rw [if_pos hd])
    have e0 : ((strB x.dst).size : Int) = 0 := by rw [ed, hd]; rfl
    have e1 : (((strB x.dst).size : Int) == 0) = true := by rw [e0]; rfl
    clear h hw0 hn hd ed e0
    go_enter Try.func38, Try.ntmps38
    go_wp2_with (go_at_call 55; (with_reducible refine W1.out.mono ?_); rintro e w1 ⟨a1, m, c1, rfl, ho, hb⟩; have HO := Lib.hid ho; have HB1 := Lib.hid hb; obtain ⟨k0, k1, k2⟩ := KC.out w1 hb; clear ho hb)
    go_ret
    exact ⟨a1, m, c1, rfl, by rw [HE.out]; exact HO.out.mono HS0.out, HB0.out.trans (HB1.out.mono HB0.out.size)⟩
  · have HE := Lib.hid (show turnD L x = ins (without (without L x.src) x.dst) x.dst x.file by unfold turnD; rw [if_neg hd])
    have e1 : (((strB x.dst).size : Int) == 0) = false := by
      have : x.dst.length ≠ 0 := fun e => hd (List.length_eq_zero_iff.1 e)
      rw [ed]; simp; omega
    have WL := Lib.hid (without_len L x.src)
    have W2 := Lib.hid (fun a m c W (h : AtG entK W a m c (without L x.src)) (hm : m ≤ 10000000) => refWithout_any a m c (without L x.src) x.dst W h (by omega))
    clear h hw0 hn hd ed
    go_enter Try.func38, Try.ntmps38
    go_wp2_with (first
      | (go_at_call 55; (with_reducible refine W1.out.mono ?_); rintro e w1 ⟨a1, m1, c1, rfl, ho, hb⟩; have HO := Lib.hid ho; have HB1 := Lib.hid hb; have HM1 := Lib.hid (show m1 ≤ 10000000 by have := ho.len; have := WL.out; have := HL.out; have := HM.out; omega); obtain ⟨k0, k1, k2⟩ := KC.out w1 hb; clear ho hb)
      | (go_at_call 55; (with_reducible refine (W2.out _ _ _ _ HO.out.atG HM1.out).mono ?_); rintro e w2 ⟨a2, m2, c2, rfl, ho, hb⟩; have HO2 := Lib.hid ho; have HB2 := Lib.hid (HB1.out.trans (hb.mono HB1.out.size)); obtain ⟨k0, k1, k2⟩ := KC.out w2 HB2.out; clear ho hb))
    obtain ⟨D, hD⟩ : ∃ D, D = without (without L x.src) x.dst := ⟨_, rfl⟩
    rw [← hD] at HO2 HE
    have HDL := Lib.hid (show D.length = m2 from HO2.out.len)
    have HM2 := Lib.hid (show m2 ≤ 10000000 by
      have h1 := without_len (without L x.src) x.dst
      rw [← hD] at h1
      have := HDL.out; have := WL.out; have := HL.out; have := HM.out
      omega)
    clear hD
    have HLs := Lib.hid (show ∀ j, ∀ k, k = x.dst → Op.bytesLess (strB (gd D j).1).toList (strB k).toList = decide ((gd D j).1 < x.dst) from fun j k hk => by rw [hk]; exact less_eq _ _)
    have hm2I : (m2 : Int) ≤ 10000000 := by have := HM2.out; omega
    go_loopg [6] m2 (fun g v6 W => ∃ i : Nat, Below w2.heap.size w2 W ∧ v6 = .int .i64 i ∧ g + i = m2 ∧ Hid (∀ j, j < i → (gd D j).1 < x.dst))
    case atStart => exact ⟨0, Below.refl _ _, rfl, rfl, Lib.hid (fun j hj => by omega)⟩
    case round =>
      obtain ⟨i, hbw, rfl, hg, HLT⟩ := hrel
      have HG := Lib.hid hg
      have HBr := Lib.hid hbw
      have hi0 : (0 : Int) ≤ (i : Int) := by omega
      have hiI : (i : Int) ≤ (m2 : Int) := by omega
      have HI2 := Lib.hid (show i ≤ m2 by omega)
      obtain ⟨q0, q1, q2⟩ := KC.out wr (HB2.out.trans (hbw.mono HB2.out.size))
      by_cases hi : (i : Int) < (m2 : Int)
      · have hin : i < m2 := by omega
        have HI := Lib.hid hin
        obtain ⟨gD, rfl, _⟩ := HO2.out.row (by omega)
        have c0 := (HO2.out.atG.below hbw).cell i hin 0 (.string (strB (gd D i).1)) rfl
        have hk2 : entK.k = 2 := rfl
        rw [hk2, Nat.add_zero, Nat.zero_add] at c0
        have ls := HLs.out i x.dst rfl
        clear hk2 hg hin
        by_cases hlt : (gd D i).1 < x.dst
        · rw [decide_eq_true hlt] at ls
          have HLT2 := Lib.hid hlt
          obtain ⟨t, ht⟩ : ∃ t, t = (gd D i).1 := ⟨_, rfl⟩
          rw [← ht] at c0 ls
          clear hlt ht
          go_wp2
          go_quiet (fail)
          have HB9 := Lib.hid (below_drewS HBr.out nq)
          generalize wr.drewN nq = w9 at HB9 ⊢
          clear q0 q1 q2 c0 ls
          go_wp2
          go_roundg (m2 - (i + 1))
          case measure => have := HG.out; have := HI.out; omega
          case rel =>
            refine ⟨i + 1, HB9.out, by go_num, by have := HG.out; have := HI.out; omega, Lib.hid (fun j hj => ?_)⟩
            rcases Nat.lt_or_ge j i with h | h
            · exact HLT.out j h
            · obtain rfl : j = i := by omega
              exact HLT2.out
        · rw [decide_eq_false hlt] at ls
          have HR := Lib.hid (show turnD L x = D.take i ++ (x.dst, x.file) :: D.drop i by
            rw [HE.out]
            exact ins_at (by rw [HDL.out]; exact HI2.out) HLT.out (fun _ => hlt))
          obtain ⟨t, ht⟩ : ∃ t, t = (gd D i).1 := ⟨_, rfl⟩
          rw [← ht] at c0 ls
          have hcc : m2 ≤ c2 := HO2.out.atG.2.1
          have hne1 : ¬ c2 = i := by have := HI.out; omega
          have hne2 : ¬ i = c2 := by have := HI.out; omega
          clear hlt ht
          go_wp2
          go_quiet (fail)
          have HBd := Lib.hid (below_drewS HBr.out nq)
          generalize wr.drewN nq = wq at HBd ⊢
          have HBq := Lib.hid (HB2.out.trans (HBd.out.mono HB2.out.size))
          have HSq := Lib.hid (Nat.le_trans HS0.out HBq.out.size)
          clear q0 q1 q2 c0 ls
          obtain ⟨k0, k1, k2⟩ := KC.out wq HBq.out
          have HS1 := Lib.hid (show (([] : Dir).length + i) * (24 + 1) ≤ 140737488355328 by have := HI2.out; have := HM2.out; simp; omega)
          have HTl := Lib.hid (show (D.take i).length = i by rw [List.length_take, HDL.out]; have := HI2.out; omega)
          have HS2 := Lib.hid (show ((D.take i).length + 1) * (24 + 1) ≤ 140737488355328 by rw [HTl.out]; have := HI2.out; have := HM2.out; omega)
          have HS3 := Lib.hid (show i + 1 = (D.take i).length + 1 by rw [HTl.out])
          have HS4 := Lib.hid (show ((D.take i ++ [(x.dst, x.file)]).length + (m2 - i)) * (24 + 1) ≤ 140737488355328 by rw [List.length_append, HTl.out]; have := HI2.out; have := HM2.out; simp; omega)
          have HS5 := Lib.hid (show i + 1 + (m2 - i) = (D.take i ++ [(x.dst, x.file)]).length + (m2 - i) by rw [List.length_append, HTl.out]; rfl)
          have HT := Lib.hid ((HO2.out.atG.below HBd.out).take HI2.out)
          have HDr : Hid (∀ W, Below wq.heap.size wq W → AtG entK W (some ⟨gD, i * 2, none⟩) (m2 - i) (c2 - i) (D.drop i)) := Lib.hid (fun W hb => by
            have h : AtG entK W (some ⟨gD, 0 + i * 2, none⟩) (m2 - i) (c2 - i) (D.drop i) := (((HO2.out.atG.below HBd.out).below hb).drop HI2.out)
            rwa [Nat.zero_add] at h)
          go_wp2_with (first
            | (at_builtin; refine appG entK Try.underlying28 entInfo rfl rfl _ _ rfl wq.heap.size _ [] rfl OwnG.nil _ i _ (D.take i) rfl HT.out HS1.out (Nat.le_refl _) i (by simp) ?_; intro a5 c5 W5 ho5 hg5; have HO5 := Lib.hid ho5; have HB5 := Lib.hid ((Below.refl wq.heap.size wq).grown hg5 (Nat.le_refl _) (fun k hk => by cases hk)); obtain ⟨k0, k1, k2⟩ := KC.out W5 (HBq.out.trans (HB5.out.mono HBq.out.size)); clear ho5 hg5)
            | (refine wpList_plain rfl (fun K hK => wp_sl_ent _ rfl (x.dst, x.file) rfl (hK _ _ ?_)))
            | (at_builtin; refine appG entK Try.underlying28 entInfo rfl rfl _ _ rfl wq.heap.size _ (D.take i) rfl (HO5.out.alloc _) _ 1 1 [(x.dst, x.file)] rfl (oneG _ (x.dst, x.file) trivial _ _ rfl) HS2.out (Nat.le_trans HB5.out.size (by simp)) (i + 1) HS3.out ?_; intro a6 c6 W6 ho6 hg6; have HO6 := Lib.hid ho6; have HB6 := Lib.hid ((HB5.out.alloc HB5.out.size _).grown hg6 (Nat.le_trans HB5.out.size (by simp)) (fun k hk => (HO5.out.lt k hk).1)); clear ho6 hg6)
            | (at_builtin; refine appG entK Try.underlying28 entInfo rfl rfl _ _ rfl wq.heap.size _ ((D.take i) ++ [(x.dst, x.file)]) rfl HO6.out _ (m2 - i) _ (D.drop i) rfl (HDr.out _ HB6.out) HS4.out HB6.out.size (i + 1 + (m2 - i)) HS5.out ?_; intro a7 c7 W7 ho7 hg7; have HO7 := Lib.hid ho7; have HB7 := Lib.hid (HB6.out.grown hg7 HB6.out.size (fun k hk => (HO6.out.lt k hk).1)); clear ho7 hg7))
          (try rw [Exit.noGoto_ret])
          go_ret
          exact ⟨a7, _, c7, rfl, by rw [HR.out]; have h := HO7.out.mono HSq.out; simpa using h, HB0.out.trans ((HBq.out.trans (HB7.out.mono HBq.out.size)).mono HB0.out.size)⟩
      · have him : i = m2 := by omega
        have HR := Lib.hid (show turnD L x = D.take i ++ (x.dst, x.file) :: D.drop i by
          rw [HE.out]
          exact ins_at (by rw [HDL.out]; exact HI2.out) HLT.out (fun h => by rw [HDL.out] at h; omega))
        clear hg
        rcases HO2.out.form with ⟨rfl, rfl, rfl⟩ | ⟨gD, rfl⟩
        · obtain rfl : i = 0 := him
          obtain rfl : D = [] := List.length_eq_zero_iff.1 HDL.out
          go_wp2
          go_quiet (fail)
          have HBd := Lib.hid (below_drewS HBr.out nq)
          generalize wr.drewN nq = wq at HBd ⊢
          have HBq := Lib.hid (HB2.out.trans (HBd.out.mono HB2.out.size))
          have HSq := Lib.hid (Nat.le_trans HS0.out HBq.out.size)
          clear q0 q1 q2
          obtain ⟨k0, k1, k2⟩ := KC.out wq HBq.out
          have HS1 := Lib.hid (show (([] : Dir).length + 0) * (24 + 1) ≤ 140737488355328 by simp)
          have HS2 := Lib.hid (show (([] : Dir).length + 1) * (24 + 1) ≤ 140737488355328 by simp)
          have HS3 := Lib.hid (show 0 + 1 = ([] : Dir).length + 1 from rfl)
          have HS4 := Lib.hid (show ((([] : Dir) ++ [(x.dst, x.file)]).length + 0) * (24 + 1) ≤ 140737488355328 by simp)
          have HS5 := Lib.hid (show 0 + 1 + 0 = (([] : Dir) ++ [(x.dst, x.file)]).length + 0 from rfl)
          have HT := Lib.hid (AtG.nil : AtG entK wq none 0 0 ([] : Dir))
          have HDr := Lib.hid (fun W (_ : Below wq.heap.size wq W) => (AtG.nil : AtG entK W none 0 0 ([] : Dir)))
          go_wp2_with (first
            | (at_builtin; refine appG entK Try.underlying28 entInfo rfl rfl _ _ rfl wq.heap.size _ [] rfl OwnG.nil _ 0 _ ([] : Dir) rfl HT.out HS1.out (Nat.le_refl _) 0 (by simp) ?_; intro a5 c5 W5 ho5 hg5; have HO5 := Lib.hid ho5; have HB5 := Lib.hid ((Below.refl wq.heap.size wq).grown hg5 (Nat.le_refl _) (fun k hk => by cases hk)); obtain ⟨k0, k1, k2⟩ := KC.out W5 (HBq.out.trans (HB5.out.mono HBq.out.size)); clear ho5 hg5)
            | (refine wpList_plain rfl (fun K hK => wp_sl_ent _ rfl (x.dst, x.file) rfl (hK _ _ ?_)))
            | (at_builtin; refine appG entK Try.underlying28 entInfo rfl rfl _ _ rfl wq.heap.size _ ([] : Dir) rfl (HO5.out.alloc _) _ 1 1 [(x.dst, x.file)] rfl (oneG _ (x.dst, x.file) trivial _ _ rfl) HS2.out (Nat.le_trans HB5.out.size (by simp)) (0 + 1) HS3.out ?_; intro a6 c6 W6 ho6 hg6; have HO6 := Lib.hid ho6; have HB6 := Lib.hid ((HB5.out.alloc HB5.out.size _).grown hg6 (Nat.le_trans HB5.out.size (by simp)) (fun k hk => (HO5.out.lt k hk).1)); clear ho6 hg6)
            | (at_builtin; refine appG entK Try.underlying28 entInfo rfl rfl _ _ rfl wq.heap.size _ (([] : Dir) ++ [(x.dst, x.file)]) rfl HO6.out _ 0 _ ([] : Dir) rfl (HDr.out _ HB6.out) HS4.out HB6.out.size (0 + 1 + 0) HS5.out ?_; intro a7 c7 W7 ho7 hg7; have HO7 := Lib.hid ho7; have HB7 := Lib.hid (HB6.out.grown hg7 HB6.out.size (fun k hk => (HO6.out.lt k hk).1)); clear ho7 hg7))
          (try rw [Exit.noGoto_ret])
          go_ret
          exact ⟨a7, _, c7, rfl, by rw [HR.out]; have h := HO7.out.mono HSq.out; simpa using h, HB0.out.trans ((HBq.out.trans (HB7.out.mono HBq.out.size)).mono HB0.out.size)⟩
        · subst him
          have HR3 := Lib.hid (show turnD L x = D ++ (x.dst, x.file) :: [] by
            rw [HR.out, List.take_of_length_le (by rw [HDL.out]; exact Nat.le_refl _), List.drop_eq_nil_of_le (by rw [HDL.out]; exact Nat.le_refl _)])
          have HT0 := Lib.hid HO2.out.atG
          have hcc := HO2.out.atG.2.1
          have hcm := HO2.out.atG.2.2.1
          by_cases hci : c2 = i
          · subst hci
            have HDr : Hid (∀ W, AtG entK W (some ⟨gD, 0, none⟩) 0 0 ([] : Dir)) := Lib.hid (fun W => AtG.empty (by omega))
            clear hcc hcm
            go_wp2
            go_quiet (fail)
            have HBd := Lib.hid (below_drewS HBr.out nq)
            generalize wr.drewN nq = wq at HBd ⊢
            have HBq := Lib.hid (HB2.out.trans (HBd.out.mono HB2.out.size))
            have HSq := Lib.hid (Nat.le_trans HS0.out HBq.out.size)
            clear q0 q1 q2
            obtain ⟨k0, k1, k2⟩ := KC.out wq HBq.out
            have HS1 := Lib.hid (show (([] : Dir).length + c2) * (24 + 1) ≤ 140737488355328 by have := HM2.out; simp; omega)
            have HS2 := Lib.hid (show (D.length + 1) * (24 + 1) ≤ 140737488355328 by rw [HDL.out]; have := HM2.out; omega)
            have HS3 := Lib.hid (show c2 + 1 = D.length + 1 by rw [HDL.out])
            have HS4 := Lib.hid (show ((D ++ [(x.dst, x.file)]).length + 0) * (24 + 1) ≤ 140737488355328 by rw [List.length_append, HDL.out]; have := HM2.out; simp; omega)
            have HS5 := Lib.hid (show c2 + 1 + 0 = (D ++ [(x.dst, x.file)]).length + 0 by rw [List.length_append, HDL.out]; rfl)
            have HT := Lib.hid (HT0.out.below HBd.out)
            go_wp2_with (first
              | (at_builtin; refine appG entK Try.underlying28 entInfo rfl rfl _ _ rfl wq.heap.size _ [] rfl OwnG.nil _ c2 _ D rfl HT.out HS1.out (Nat.le_refl _) c2 (by simp) ?_; intro a5 c5 W5 ho5 hg5; have HO5 := Lib.hid ho5; have HB5 := Lib.hid ((Below.refl wq.heap.size wq).grown hg5 (Nat.le_refl _) (fun k hk => by cases hk)); obtain ⟨k0, k1, k2⟩ := KC.out W5 (HBq.out.trans (HB5.out.mono HBq.out.size)); clear ho5 hg5)
              | (refine wpList_plain rfl (fun K hK => wp_sl_ent _ rfl (x.dst, x.file) rfl (hK _ _ ?_)))
              | (at_builtin; refine appG entK Try.underlying28 entInfo rfl rfl _ _ rfl wq.heap.size _ D rfl (HO5.out.alloc _) _ 1 1 [(x.dst, x.file)] rfl (oneG _ (x.dst, x.file) trivial _ _ rfl) HS2.out (Nat.le_trans HB5.out.size (by simp)) (c2 + 1) HS3.out ?_; intro a6 c6 W6 ho6 hg6; have HO6 := Lib.hid ho6; have HB6 := Lib.hid ((HB5.out.alloc HB5.out.size _).grown hg6 (Nat.le_trans HB5.out.size (by simp)) (fun k hk => (HO5.out.lt k hk).1)); clear ho6 hg6)
              | (at_builtin; refine appG entK Try.underlying28 entInfo rfl rfl _ _ rfl wq.heap.size _ (D ++ [(x.dst, x.file)]) rfl HO6.out _ 0 _ ([] : Dir) rfl (HDr.out _) HS4.out HB6.out.size (c2 + 1 + 0) HS5.out ?_; intro a7 c7 W7 ho7 hg7; have HO7 := Lib.hid ho7; have HB7 := Lib.hid (HB6.out.grown hg7 HB6.out.size (fun k hk => (HO6.out.lt k hk).1)); clear ho7 hg7))
            (try rw [Exit.noGoto_ret])
            go_ret
            exact ⟨a7, _, c7, rfl, by rw [HR3.out]; have h := HO7.out.mono HSq.out; simpa using h, HB0.out.trans ((HBq.out.trans (HB7.out.mono HBq.out.size)).mono HB0.out.size)⟩
          · have hne2 : ¬ i = c2 := fun h => hci h.symm
            have HDr : Hid (∀ W, AtG entK W (some ⟨gD, i * 2, none⟩) 0 (c2 - i) ([] : Dir)) := Lib.hid (fun W => AtG.empty (by omega))
            clear hcm
            go_wp2
            go_quiet (fail)
            have HBd := Lib.hid (below_drewS HBr.out nq)
            generalize wr.drewN nq = wq at HBd ⊢
            have HBq := Lib.hid (HB2.out.trans (HBd.out.mono HB2.out.size))
            have HSq := Lib.hid (Nat.le_trans HS0.out HBq.out.size)
            clear q0 q1 q2
            obtain ⟨k0, k1, k2⟩ := KC.out wq HBq.out
            have HS1 := Lib.hid (show (([] : Dir).length + i) * (24 + 1) ≤ 140737488355328 by have := HM2.out; simp; omega)
            have HS2 := Lib.hid (show (D.length + 1) * (24 + 1) ≤ 140737488355328 by rw [HDL.out]; have := HM2.out; omega)
            have HS3 := Lib.hid (show i + 1 = D.length + 1 by rw [HDL.out])
            have HS4 := Lib.hid (show ((D ++ [(x.dst, x.file)]).length + 0) * (24 + 1) ≤ 140737488355328 by rw [List.length_append, HDL.out]; have := HM2.out; simp; omega)
            have HS5 := Lib.hid (show i + 1 + 0 = (D ++ [(x.dst, x.file)]).length + 0 by rw [List.length_append, HDL.out]; rfl)
            have HT := Lib.hid (HT0.out.below HBd.out)
            go_wp2_with (first
              | (at_builtin; refine appG entK Try.underlying28 entInfo rfl rfl _ _ rfl wq.heap.size _ [] rfl OwnG.nil _ i _ D rfl HT.out HS1.out (Nat.le_refl _) i (by simp) ?_; intro a5 c5 W5 ho5 hg5; have HO5 := Lib.hid ho5; have HB5 := Lib.hid ((Below.refl wq.heap.size wq).grown hg5 (Nat.le_refl _) (fun k hk => by cases hk)); obtain ⟨k0, k1, k2⟩ := KC.out W5 (HBq.out.trans (HB5.out.mono HBq.out.size)); clear ho5 hg5)
              | (refine wpList_plain rfl (fun K hK => wp_sl_ent _ rfl (x.dst, x.file) rfl (hK _ _ ?_)))
              | (at_builtin; refine appG entK Try.underlying28 entInfo rfl rfl _ _ rfl wq.heap.size _ D rfl (HO5.out.alloc _) _ 1 1 [(x.dst, x.file)] rfl (oneG _ (x.dst, x.file) trivial _ _ rfl) HS2.out (Nat.le_trans HB5.out.size (by simp)) (i + 1) HS3.out ?_; intro a6 c6 W6 ho6 hg6; have HO6 := Lib.hid ho6; have HB6 := Lib.hid ((HB5.out.alloc HB5.out.size _).grown hg6 (Nat.le_trans HB5.out.size (by simp)) (fun k hk => (HO5.out.lt k hk).1)); clear ho6 hg6)
              | (at_builtin; refine appG entK Try.underlying28 entInfo rfl rfl _ _ rfl wq.heap.size _ (D ++ [(x.dst, x.file)]) rfl HO6.out _ 0 _ ([] : Dir) rfl (HDr.out _) HS4.out HB6.out.size (i + 1 + 0) HS5.out ?_; intro a7 c7 W7 ho7 hg7; have HO7 := Lib.hid ho7; have HB7 := Lib.hid (HB6.out.grown hg7 HB6.out.size (fun k hk => (HO6.out.lt k hk).1)); clear ho7 hg7))
            (try rw [Exit.noGoto_ret])
            go_ret
            exact ⟨a7, _, c7, rfl, by rw [HR3.out]; have h := HO7.out.mono HSq.out; simpa using h, HB0.out.trans ((HBq.out.trans (HB7.out.mono HBq.out.size)).mono HB0.out.size)⟩
#print axioms refTurned_any
end Go.Proofs.Ytemphljkfpkgmaa
