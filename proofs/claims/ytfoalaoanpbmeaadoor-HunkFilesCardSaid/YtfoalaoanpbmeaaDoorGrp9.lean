/-
  Merged: HkMoves, HkGo0.
-/
import Derived.Test.YtfoalaoanpbmeaaDoorMyScript
import Derived.Test.YtfoalaoanpbmeaaDoorMyRefMoves
import Derived.Test.YtfoalaoanpbmeaaDoorGrp3
import Derived.Test.YtfoalaoanpbmeaaDoorGrp4
import Derived.WalkMore
namespace Go.Proofs.YtfoalaoanpbmeaaDoor
open Go.RowKit My

theorem wl_maxH {P : Program} {w : World} {ops : Array Oper} {rest : List Oper} {o : Oper} {a : Act} {Q : Exit → Act → World → Prop} (hgd : o.guard = none) (x y : Operand) (ats : Array TypeId)
    (ho : o.op = .call { callee := .builtin .max, args := #[x, y], argTypes := ats }) (X Y Z : Int) (hx : a.eval x = .int .i64 X) (hy : a.eval y = .int .i64 Y) (hz : Z = if X < Y then Y else X)
    (h : wpList P ops Q rest (a.put o.dst (.int .i64 Z)) w) : wpList P ops Q (o :: rest) a w := by
  refine wpList_ok hgd (v := .int .i64 Z) ?_ h
  subst hz
  obtain ⟨dst, op, ty, pos, after, guard⟩ := o
  subst ho
  simp only [BigFrame.execOp_builtin, BigFrame.builtin_max]
  simp [hx, hy, Builtin.max_, Builtin.max2]
theorem wl_minH {P : Program} {w : World} {ops : Array Oper} {rest : List Oper} {o : Oper} {a : Act} {Q : Exit → Act → World → Prop} (hgd : o.guard = none) (x y : Operand) (ats : Array TypeId)
    (ho : o.op = .call { callee := .builtin .min, args := #[x, y], argTypes := ats }) (X Y Z : Int) (hx : a.eval x = .int .i64 X) (hy : a.eval y = .int .i64 Y) (hz : Z = if Y < X then Y else X)
    (h : wpList P ops Q rest (a.put o.dst (.int .i64 Z)) w) : wpList P ops Q (o :: rest) a w := by
  refine wpList_ok hgd (v := .int .i64 Z) ?_ h
  subst hz
  obtain ⟨dst, op, ty, pos, after, guard⟩ := o
  subst ho
  simp only [BigFrame.execOp_builtin, BigFrame.builtin_min]
  simp [hx, hy, Builtin.min_, Builtin.min2]
set_option maxRecDepth 100000 in
set_option maxHeartbeats 2000000 in
theorem moves_yes (A B : List Int) (aa ab : Option Addr) (n m ca cb : Nat) (w : World) (ha : Runs w aa n ca A) (hb : Runs w ab m cb B) (hA : n ≤ 4096) (hB : m ≤ 4096) :
    Calls Tryd.prog 39 #[.slice aa n ca, .slice ab m cb] w (RMovesIs A B w) := by
  have SC := Lib.hid (show Calls Tryd.prog 54 #[.slice aa n ca, .slice ab m cb] w (ScrIs (scr A B) w) by
    have h1 := ha.1
    have h2 := hb.1
    subst h1; subst h2
    exact script_any A B aa ab ca cb w ha hb hA hB)
  obtain ⟨k, hk⟩ : ∃ k, max n m = k := ⟨_, rfl⟩
  have hmx : (k : Int) = if (n : Int) < (m : Int) then (m : Int) else (n : Int) := by rw [← hk]; split <;> omega
  have HMX := Lib.hid hmx
  have z1 : decide (4096 < k) = false := by simp; omega
  have z2 : decide ((4096 : Int) < (k : Int)) = false := by simp; omega
  clear ha hb hA hB hk hmx
  go_enter Tryd.func39, Tryd.ntmps39
  go_wp2_with (first
    | ((with_reducible show wpList _ _ _ (⟨some 10, _, _, _, _, _⟩ :: _) _ _); refine wl_maxI rfl _ _ _ rfl (n : Int) (m : Int) (k : Int) rfl rfl HMX.out ?_)
    | (go_at_call 54; (refine SC.out.mono ?_); rintro en w1 ⟨a, c, rfl, hO, hb1⟩; have HO := Lib.hid hO; have HB := Lib.hid hb1; clear hO hb1))
  go_ret2
  exact ⟨a, c, rfl, HO.out, HB.out⟩
end Go.Proofs.YtfoalaoanpbmeaaDoor

namespace Go.Proofs.YtfoalaoanpbmeaaDoor
open Go.RowKit Go.Lib My

/-- Is something near a move that is not kept? -/
def nearF (ms : List Int) (at_ : Nat) : Bool := ((ms.take (at_ + 4)).drop (at_ - 3)).any (fun m => m != 1)
def putF (H : List HkV) (op : Bool) (i j : Nat) (x : Ln) : List HkV :=
  if op then H.dropLast ++ [⟨(H.getLastD default).f, (H.getLastD default).t, (H.getLastD default).ls ++ [x]⟩] else H ++ [⟨i, j, [x]⟩]
def hkGo (ms : List Int) (a b : List Ln) : List Int → Nat → Nat → Nat → Bool → List HkV → List HkV
  | [], _, _, _, _, H => H
  | m :: r, at_, i, j, op, H =>
    if nearF ms at_ then
      if m = 1 then hkGo ms a b r (at_ + 1) (i + 1) (j + 1) true (putF H op i j (32 :: a.getD i []))
      else if m = 2 then hkGo ms a b r (at_ + 1) (i + 1) j true (putF H op i j (45 :: a.getD i []))
      else hkGo ms a b r (at_ + 1) i (j + 1) true (putF H op i j (43 :: b.getD j []))
    else hkGo ms a b r (at_ + 1) (i + 1) (j + 1) false H
def hunksF (a b : List Ln) : List HkV := hkGo (scrL a b) a b (scrL a b) 0 0 0 false []
theorem put_on_eq (V0 : List (HkV × Value)) (y : HkV) (v v' : Value) (i j : Nat) (x : Ln) : (V0 ++ [((⟨y.f, y.t, y.ls ++ [x]⟩ : HkV), v')]).map (·.1) = putF ((V0 ++ [(y, v)]).map (·.1)) true i j x := by
  unfold putF
  rw [if_pos rfl, List.map_append, List.map_append]
  simp
theorem put_new_eq (V : List (HkV × Value)) (v' : Value) (i j : Nat) (x : Ln) : (V ++ [((⟨i, j, [] ++ [x]⟩ : HkV), v')]).map (·.1) = putF (V.map (·.1)) false i j x := by
  unfold putF
  rw [if_neg (by decide), List.map_append]
  rfl
/-- Is there one in the window? Told place by place. -/
theorem near_yes {ms : List Int} {at_ k : Nat} (h1 : at_ - 3 + k < at_ + 4) (h2 : at_ - 3 + k < ms.length) (h : ms.getD (at_ - 3 + k) 0 ≠ 1) : nearF ms at_ = true := by
  unfold nearF
  rw [List.any_eq_true]
  refine ⟨ms.getD (at_ - 3 + k) 0, ?_, by simpa using h⟩
  rw [List.mem_iff_getElem?]
  refine ⟨k, ?_⟩
  rw [List.getElem?_drop, List.getElem?_take_of_lt (by omega), List.getD_eq_getElem?_getD, List.getElem?_eq_getElem h2]
  rfl
theorem near_no {ms : List Int} {at_ : Nat} (h : ∀ k, at_ - 3 + k < at_ + 4 → at_ - 3 + k < ms.length → ms.getD (at_ - 3 + k) 0 = 1) : nearF ms at_ = false := by
  unfold nearF
  rw [List.any_eq_false]
  intro m hm
  obtain ⟨k, hk⟩ := List.mem_iff_getElem?.1 hm
  rw [List.getElem?_drop] at hk
  have h1 : at_ - 3 + k < at_ + 4 := by
    rcases Nat.lt_or_ge (at_ - 3 + k) (at_ + 4) with h1 | h1
    · exact h1
    · rw [List.getElem?_eq_none (by rw [List.length_take]; omega)] at hk; cases hk
  rw [List.getElem?_take_of_lt h1] at hk
  have h2 : at_ - 3 + k < ms.length := by
    rcases Nat.lt_or_ge (at_ - 3 + k) ms.length with h2 | h2
    · exact h2
    · rw [List.getElem?_eq_none h2] at hk; cases hk
  have h3 := h k h1 h2
  rw [List.getD_eq_getElem?_getD, hk] at h3
  simpa using h3
theorem near_self {ms : List Int} {at_ : Nat} (h2 : at_ < ms.length) (h : nearF ms at_ = false) : ms.getD at_ 0 = 1 := by
  by_cases h3 : ms.getD at_ 0 = 1
  · exact h3
  · have h4 := near_yes (ms := ms) (at_ := at_) (k := at_ - (at_ - 3)) (by omega) (by omega) (by rw [show at_ - 3 + (at_ - (at_ - 3)) = at_ by omega]; exact h3)
    rw [h] at h4; cases h4
/-- What hunks hands back: hunks in memory of their own. -/
def HksIs (Z : List HkV) (w : World) (e : Ending) (w' : World) : Prop := ∃ a c base V, e = .returned (.slice a V.length c) ∧ V.map (·.1) = Z ∧ HkH w' base a c V ∧ w.heap.size ≤ base ∧ Below w.heap.size w w'
theorem cv32 (W : World) : (convert 21 9 (.int .i32 32)).run Tryd.prog W = .ok (.string (strB [32])) W := by kernel_rfl
theorem cv45 (W : World) : (convert 21 9 (.int .i32 45)).run Tryd.prog W = .ok (.string (strB [45])) W := by kernel_rfl
theorem cv43 (W : World) : (convert 21 9 (.int .i32 43)).run Tryd.prog W = .ok (.string (strB [43])) W := by kernel_rfl
theorem moves_ms {A B ms : List Int} (hms : scr A B = ms) (aa ab : Option Addr) (n m ca cb : Nat) (w : World) (ha : Runs w aa n ca A) (hb : Runs w ab m cb B) (hA : n ≤ 4096) (hB : m ≤ 4096) (N : Nat) (hN : ms.length = N) :
    Calls Tryd.prog 39 #[.slice aa n ca, .slice ab m cb] w fun e w' => ∃ a c, e = .returned (.tuple #[.slice a N c, .int .i64 0]) ∧ Bytes w' a N c (mvB ms) ∧ Below w.heap.size w w' := by
  subst hms hN
  exact (moves_yes A B aa ab n m ca cb w ha hb hA hB).mono fun e w' ⟨a, c, h1, h2, h3⟩ => ⟨a, c, h1, h2.isBytes, h3⟩
/-- The state of the loop: the boxes, the hunks so far. -/
def HkS (w0 W : World) (s base gl gi gj go i j : Nat) (op : Bool) (K : Nat) (H : List HkV) : Prop :=
  ∃ a c V, HkL w0 W s base gl gi gj go (.slice a V.length c) i j op ∧ HkH W base a c V ∧ V.map (·.1) = H ∧ (op = true → V ≠ []) ∧ V.length ≤ K ∧ ∀ x ∈ V, x.1.ls.length ≤ K
section
variable {w0 W : World} {s base gl gi gj go i j K : Nat} {op : Bool} {H : List HkV}
theorem HkS.lo (h : HkS w0 W s base gl gi gj go i j op K H) : ∃ lv, HkL w0 W s base gl gi gj go lv i j op := by obtain ⟨a, c, V, h1, _⟩ := h; exact ⟨_, h1⟩
theorem HkS.seti (h : HkS w0 W s base gl gi gj go i j op K H) (i' : Nat) : HkS w0 (W.setCell ⟨gi, 0, none⟩ (.int .i64 (i' : Nat))) s base gl gi gj go i' j op K H := by
  obtain ⟨a, c, V, h1, h2, h3⟩ := h
  exact ⟨a, c, V, h1.seti i', h2.setLow h1.lt.2.1 _, h3⟩
theorem HkS.setj (h : HkS w0 W s base gl gi gj go i j op K H) (j' : Nat) : HkS w0 (W.setCell ⟨gj, 0, none⟩ (.int .i64 (j' : Nat))) s base gl gi gj go i j' op K H := by
  obtain ⟨a, c, V, h1, h2, h3⟩ := h
  exact ⟨a, c, V, h1.setj j', h2.setLow h1.lt.2.2.1 _, h3⟩
theorem HkS.shut (h : HkS w0 W s base gl gi gj go i j op K H) : HkS w0 (W.setCell ⟨go, 0, none⟩ (.bool false)) s base gl gi gj go i j false K H := by
  obtain ⟨a, c, V, h1, h2, h3, _, h4⟩ := h
  exact ⟨a, c, V, h1.seto false, h2.setLow h1.lt.2.2.2 _, h3, (fun e => by cases e), h4⟩
theorem HkS.mono (h : HkS w0 W s base gl gi gj go i j op K H) {K' : Nat} (hK : K ≤ K') : HkS w0 W s base gl gi gj go i j op K' H := by
  obtain ⟨a, c, V, h1, h2, h3, h4, h5, h6⟩ := h
  exact ⟨a, c, V, h1, h2, h3, h4, by omega, fun x hx => by have := h6 x hx; omega⟩
theorem put_any (h : HkS w0 W s base gl gi gj go i j op K H) (hK : K ≤ 100000) (z : Int) (u : UInt8) (l x : Ln) (hx : u :: l = x) (hl : l.length ≤ 4000000000) (hcv : ∀ w, (convert 21 9 (.int .i32 z)).run Tryd.prog w = .ok (.string (strB [u])) w) :
    Calls Tryd.prog 41 #[.int .i32 z, .string (strB l), .pointer (some ⟨go, 0, none⟩), .pointer (some ⟨gl, 0, none⟩), .pointer (some ⟨gi, 0, none⟩), .pointer (some ⟨gj, 0, none⟩)] W fun e W' => e = .returned (.tuple #[]) ∧ HkS w0 W' s base gl gi gj go i j true (K + 1) (putF H op i j x) := by
  obtain ⟨a, c, V, h1, h2, h3, h4, h5, h6⟩ := h
  subst hx
  cases op with
  | true =>
    obtain ⟨V0, ⟨y, v⟩, rfl⟩ : ∃ V0 z, V = V0 ++ [z] := ⟨V.dropLast, V.getLast (h4 rfl), (List.dropLast_concat_getLast (h4 rfl)).symm⟩
    rw [len_snoc] at h1 h5
    refine (put_on w0 W s base gl gi gj go i j a c V0 y v z u l h1 h2 (by omega) (by have := h6 (y, v) (by simp); simp only at this; omega) hl hcv).mono fun e W' ⟨he, a', c', v', g1, g2⟩ => ⟨he, a', c', _, by rw [len_snoc]; exact g1, g2, ?_, fun _ => by simp, by rw [len_snoc]; omega, fun x hx => ?_⟩
    · rw [← h3]; exact put_on_eq V0 y v v' i j (u :: l)
    · rcases List.mem_append.1 hx with hx | hx
      · have := h6 x (List.mem_append_left _ hx); omega
      · have := h6 (y, v) (by simp)
        rw [List.mem_singleton.1 hx]; simp only [List.length_append, List.length_cons, List.length_nil] at this ⊢; omega
  | false =>
    refine (put_new w0 W s base gl gi gj go i j a c V z u l h1 h2 (by omega) hl hcv).mono fun e W' ⟨he, a', c', v', g1, g2⟩ => ⟨he, a', c', _, by rw [len_snoc]; exact g1, g2, ?_, fun _ => by simp, by rw [len_snoc]; omega, fun x hx => ?_⟩
    · rw [← h3]; exact put_new_eq V v' i j (u :: l)
    · rcases List.mem_append.1 hx with hx | hx
      · have := h6 x hx; omega
      · rw [List.mem_singleton.1 hx]; simp
end
end Go.Proofs.YtfoalaoanpbmeaaDoor
