/-
  The document's hunks in memory.
-/
import Derived.Test.YtfoalaoanpbmeaaDoorGrp20
namespace Go.Proofs.YtfoalaoanpbmeaaDoor
open Go.RowKit Go.Lib My

abbrev RunkT : TypeId := 55
theorem infoRk : (Tryd.prog.info? RunkT).map (fun i => (i.zero, i.size, i.bytes)) = some (some (.agg #[.int .i64 0, .int .i64 0, .slice none 0 0]), 3, 40) := by kernel_rfl
def rowR (a : Option Addr) (c : Nat) (V : List (HkV × Value)) : Hold := hG hkK RunkT (.slice a V.length c) V
/-- The hunks in memory: their row, and each one's lines, none in a block of another one. -/
def RkH (W : World) (base : Nat) (a : Option Addr) (c : Nat) (V : List (HkV × Value)) : Prop := Holds W base (rowR a c V :: V.reverse.map lnH) ∧ ∀ x ∈ V, x.2.oneCell' = true
section
variable {W W' : World} {base : Nat} {a : Option Addr} {c : Nat} {V : List (HkV × Value)}
theorem RkH.row (h : RkH W base a c V) : OwnG hkK RunkT W base (.slice a V.length c) V := ⟨h.1.own (rowR a c V) (List.mem_cons_self ..), h.2⟩
theorem RkH.ln (h : RkH W base a c V) {x : HkV × Value} (hx : x ∈ V) : OwnG lnK 9 W base x.2 x.1.ls := ⟨h.1.own (lnH x) (List.mem_cons_of_mem _ (List.mem_map.2 ⟨x, by simpa using hx, rfl⟩)), fun _ _ => trivial⟩
theorem RkH.below (h : RkH W base a c V) (hb : Below W.heap.size W W') : RkH W' base a c V := ⟨h.1.below hb, h.2⟩
theorem RkH.setLow (h : RkH W base a c V) {g : Nat} (hg : g < base) (u : Value) : RkH (W.setCell ⟨g, 0, none⟩ u) base a c V := ⟨h.1.setLow hg 0 u, h.2⟩
/-- A hunk more, without lines. -/
theorem RkH.more (h : RkH W base a c V) (y : HkV) (hy : y.ls = []) {a' : Option Addr} {c' : Nat} (ho : OwnG hkK RunkT W' base (.slice a' (V.length + 1) c') (V ++ [(y, .slice none 0 0)])) (hg : W.grownBy W' (Value.slice a V.length c).ownBlock) (ht : Told W (.slice a V.length c) (.slice a' (V.length + 1) c')) : RkH W' base a' c' (V ++ [(y, .slice none 0 0)]) := by
  have h1 := h.1.put (h' := rowR a' c' (V ++ [(y, .slice none 0 0)])) hg (by
    have := ho.1
    have e : (V ++ [(y, Value.slice none 0 0)]).length = V.length + 1 := by simp
    show W'.ownsRow base RunkT 3 (.slice a' (V ++ [(y, Value.slice none 0 0)]).length c') (V ++ [(y, Value.slice none 0 0)]).length (flatG hkK (V ++ [(y, Value.slice none 0 0)]))
    rw [e]
    rw [e] at this
    exact this) (by
    show Told W (.slice a V.length c) (.slice a' (V ++ [(y, Value.slice none 0 0)]).length c')
    rw [List.length_append]; exact ht)
  obtain ⟨h2, h3⟩ := h1
  obtain ⟨h4, h5⟩ := List.pairwise_cons.1 h3
  have hn : (lnH (y, .slice none 0 0)).At W' base := by
    show W'.ownsRow base 9 1 (.slice none 0 0) y.ls.length (flatG lnK y.ls)
    rw [hy]; exact World.ownsRow_nil _ _ _ _
  have e : (V ++ [(y, Value.slice none 0 0)]).reverse.map lnH = lnH (y, .slice none 0 0) :: V.reverse.map lnH := by rw [List.reverse_append]; rfl
  refine ⟨⟨fun x hx => ?_, ?_⟩, fun x hx => ?_⟩
  · rw [e] at hx
    rcases List.mem_cons.1 hx with rfl | hx
    · exact h2 _ (by simp)
    · rcases List.mem_cons.1 hx with rfl | hx
      · exact hn
      · exact h2 x (List.mem_cons_of_mem _ hx)
  · rw [e]
    refine List.pairwise_cons.2 ⟨fun x hx => ?_, List.pairwise_cons.2 ⟨(fun x _ k hk => by cases hk), h5⟩⟩
    rcases List.mem_cons.1 hx with rfl | hx
    · exact fun k _ hk => by cases hk
    · exact h4 x hx
  · rcases List.mem_append.1 hx with hx | hx
    · exact h.2 x hx
    · rw [List.mem_singleton.1 hx]; rfl
/-- A line more in the last hunk; its slice stored into the row. -/
theorem RkH.line {y : HkV} {v v' : Value} {l' : List Ln} {w' : World} {g : Nat} (h : RkH W base (some ⟨g, 0, none⟩) c (V ++ [(y, v)])) (ho : OwnG lnK 9 w' base v' l') (hv' : v'.oneCell' = true) (hg : W.grownBy w' v.ownBlock) (ht : Told W v v') :
    RkH (w'.setCell ⟨g, V.length * 3 + 2, none⟩ v') base (some ⟨g, 0, none⟩) c (V ++ [(⟨y.f, y.t, l'⟩, v')]) := by
  have e : ∀ z : HkV × Value, (V ++ [z]).reverse.map lnH = lnH z :: V.reverse.map lnH := fun z => by rw [List.reverse_append]; rfl
  have h1 := h.1
  rw [e] at h1
  have h2 := (h1.perm (List.Perm.swap _ _ _)).put (h' := lnH (⟨y.f, y.t, l'⟩, v')) hg ho.1 ht
  have h3 := h2.perm (List.Perm.swap _ _ _)
  have hrow : OwnG hkK RunkT w' base (.slice (some ⟨g, 0, none⟩) (V ++ [(y, v)]).length c) (V ++ [(y, v)]) := ⟨h3.own (rowR (some ⟨g, 0, none⟩) c (V ++ [(y, v)])) (List.mem_cons_self ..), h.2⟩
  have hst := hrow.store (j := V.length) (i := 2) (by simp) (by decide) v' (⟨y.f, y.t, l'⟩, v') (by
    have e2 : gd (V ++ [(y, v)]) V.length = (y, v) := by unfold gd; simp
    rw [e2]; rfl) hv'
  have e3 : (V ++ [(y, v)]).set V.length (⟨y.f, y.t, l'⟩, v') = V ++ [(⟨y.f, y.t, l'⟩, v')] := by rw [List.set_append_right _ _ (Nat.le_refl _), Nat.sub_self]; rfl
  rw [e3] at hst
  have el : (V ++ [(y, v)]).length = (V ++ [((⟨y.f, y.t, l'⟩ : HkV), v')]).length := by simp
  refine ⟨?_, hst.2⟩
  rw [e]
  refine h3.put (h' := rowR (some ⟨g, 0, none⟩) c (V ++ [(⟨y.f, y.t, l'⟩, v')])) (grown_set w' g (V.length * 3 + 2) v') ?_ (.inl ?_)
  · have := hst.1
    rw [el] at this
    exact this
  · show (Value.slice (some ⟨g, 0, none⟩) (V ++ [((⟨y.f, y.t, l'⟩ : HkV), v')]).length c).ownBlock = (Value.slice (some ⟨g, 0, none⟩) (V ++ [(y, v)]).length c).ownBlock
    rw [el]
end
theorem RkH.slot {W : World} {base : Nat} {c : Nat} {V : List (HkV × Value)} {y : HkV} {v v' : Value} {l' : List Ln} {w' : World} {g : Nat} (h : RkH W base (some ⟨g, 0, none⟩) c (V ++ [(y, v)])) (ho : OwnG lnK 9 w' base v' l') (hg : W.grownBy w' v.ownBlock) (ht : Told W v v') :
    w'.cell? ⟨g, V.length * 3 + 2, none⟩ = some v ∧ w'.frozen? ⟨g, V.length * 3 + 2, none⟩ = false ∧ base ≤ g := by
  have e : ∀ z : HkV × Value, (V ++ [z]).reverse.map lnH = lnH z :: V.reverse.map lnH := fun z => by rw [List.reverse_append]; rfl
  have h1 := h.1
  rw [e] at h1
  have h2 := (h1.perm (List.Perm.swap _ _ _)).put (h' := lnH (⟨y.f, y.t, l'⟩, v')) hg ho.1 ht
  have h3 := h2.perm (List.Perm.swap _ _ _)
  have hrow : OwnG hkK RunkT w' base (.slice (some ⟨g, 0, none⟩) (V ++ [(y, v)]).length c) (V ++ [(y, v)]) := ⟨h3.own (rowR (some ⟨g, 0, none⟩) c (V ++ [(y, v)])) (List.mem_cons_self ..), h.2⟩
  obtain ⟨g', hg', h5, _, h6⟩ := hrow.row (by simp)
  obtain rfl : g = g' := by injection hg' with e1; injection e1
  refine ⟨?_, h6 _, h5⟩
  have := hrow.atG.cell V.length (by simp) 2 v (by
    have e2 : gd (V ++ [(y, v)]) V.length = (y, v) := by unfold gd; simp
    rw [e2]; rfl)
  rw [show 0 + V.length * hkK.k + 2 = V.length * 3 + 2 by show 0 + V.length * 3 + 2 = _; omega] at this
  exact this
theorem RkH.slot0 {W : World} {base : Nat} {c : Nat} {V : List (HkV × Value)} {y : HkV} {v : Value} {g : Nat} (h : RkH W base (some ⟨g, 0, none⟩) c (V ++ [(y, v)])) : W.cell? ⟨g, V.length * 3 + 2, none⟩ = some v := by
  have := h.row.atG.cell V.length (by simp) 2 v (by
    have e2 : gd (V ++ [(y, v)]) V.length = (y, v) := by unfold gd; simp
    rw [e2]; rfl)
  rw [show 0 + V.length * hkK.k + 2 = V.length * 3 + 2 by show 0 + V.length * 3 + 2 = _; omega] at this
  exact this
theorem rk_nil (W : World) (base : Nat) : RkH W base none 0 [] := by
  refine ⟨⟨fun h hm => ?_, List.pairwise_singleton _ _⟩, (fun x hx => by cases hx)⟩
  obtain rfl : h = rowR none 0 [] := by simpa using hm
  exact World.ownsRow_nil _ _ _ _
/-- Scripts hang on which lines are the same, alone. -/
theorem scr_inj (a b : List Ln) (f g : Ln → Int) (hf : ∀ x ∈ a, ∀ y ∈ b, f x = f y → x = y) (hg : ∀ x ∈ a, ∀ y ∈ b, g x = g y → x = y) : scr (a.map f) (b.map f) = scr (a.map g) (b.map g) := by
  unfold scr
  rw [List.length_map, List.length_map, List.length_map, List.length_map]
  refine mv_congr _ _ _ (Nat.le_refl _) (fun i j hi hj => ?_)
  have e : ∀ h : Ln → Int, (∀ x ∈ a, ∀ y ∈ b, h x = h y → x = y) → eq2 (a.map h) (b.map h) i j = decide (a.getD (a.length - 1 - i) [] = b.getD (b.length - 1 - j) []) := fun h hh => by
    have h1 : a.length - 1 - i < a.length := by omega
    have h2 : b.length - 1 - j < b.length := by omega
    have e1 : (a.map h).getD (a.length - 1 - i) 0 = h (a.getD (a.length - 1 - i) []) := by simp [List.getD_eq_getElem?_getD, h1]
    have e2 : (b.map h).getD (b.length - 1 - j) 0 = h (b.getD (b.length - 1 - j) []) := by simp [List.getD_eq_getElem?_getD, h2]
    unfold eq2
    rw [List.length_map, List.length_map, e1, e2, Bool.eq_iff_iff, beq_iff_eq, decide_eq_true_iff]
    exact ⟨fun e => hh _ (getD_mem h1) _ (getD_mem h2) e, fun e => by rw [e]⟩
  rw [e f hf, e g hg]
theorem idx_scr (a b : List Ln) : scr (a.map fun x => (((a ++ b).idxOf x : Nat) : Int)) (b.map fun x => (((a ++ b).idxOf x : Nat) : Int)) = scrL a b := by
  obtain ⟨H, h1, h2, h3, h4⟩ := nums_two a b
  unfold scrL
  rw [h3, h4]
  exact scr_inj a b _ _ (fun x hx y _ e => idx_inj (H := a ++ b) (List.mem_append_left b hx) (by omega)) (fun x hx y _ e => idx_inj (h1 x hx) (by omega))
/-- Near, told step by step. -/
def nearQ (ms : List Int) (n q : Nat) : Bool := (List.range q).any fun t => decide (3 ≤ n + t ∧ n + t - 3 < ms.length) && (ms.getD (n + t - 3) 0 != 1)
theorem nearQ_succ (ms : List Int) (n q : Nat) : nearQ ms n (q + 1) = (nearQ ms n q || (decide (3 ≤ n + q ∧ n + q - 3 < ms.length) && (ms.getD (n + q - 3) 0 != 1))) := by
  unfold nearQ; rw [List.range_succ, List.any_append]; simp
theorem nearQ_all (ms : List Int) (n : Nat) : nearQ ms n 7 = nearF ms n := by
  rw [Bool.eq_iff_iff]
  constructor
  · intro h
    unfold nearQ at h
    obtain ⟨t, ht, h1⟩ := List.any_eq_true.1 h
    rw [Bool.and_eq_true, decide_eq_true_iff] at h1
    obtain ⟨⟨h2, h3⟩, h4⟩ := h1
    have ht7 : t < 7 := List.mem_range.1 ht
    have hne : ms.getD (n + t - 3) 0 ≠ 1 := by simpa using h4
    have e : n - 3 + (n + t - 3 - (n - 3)) = n + t - 3 := by omega
    exact near_yes (k := n + t - 3 - (n - 3)) (by omega) (by omega) (by rw [e]; exact hne)
  · intro h
    obtain ⟨q, q1, q2, q3, q4⟩ := near_ex h
    unfold nearQ
    refine List.any_eq_true.2 ⟨q + 3 - n, List.mem_range.2 (by omega), ?_⟩
    have e : n + (q + 3 - n) - 3 = q := by omega
    rw [e, Bool.and_eq_true, decide_eq_true_iff]
    exact ⟨⟨by omega, q1⟩, by simpa using q4⟩
#print axioms idx_scr
#print axioms nearQ_all
end Go.Proofs.YtfoalaoanpbmeaaDoor
