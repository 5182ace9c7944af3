/-
  Merged: HkPut, HkPutW.
-/
import Derived.Test.YtfoalaoanpbmeaaDoorHkNum
import Derived.Test.YtfoalaoanpbmeaaDoorGrp3
namespace Go.Proofs.YtfoalaoanpbmeaaDoor
open Go.RowKit Go.Lib

structure HkV where
  f : Nat
  t : Nat
  ls : List Ln
  deriving Inhabited
abbrev HunkT : TypeId := 48
def hkC (x : HkV × Value) : List Value := [.int .i64 (x.1.f : Nat), .int .i64 (x.1.t : Nat), x.2]
def hkK : Kind (HkV × Value) := ⟨hkC, 3, fun x => x.2.oneCell' = true, by decide, fun _ _ => rfl, fun x hx v hv => by
  simp only [hkC, List.mem_cons, List.not_mem_nil, or_false] at hv
  rcases hv with rfl | rfl | rfl
  · rfl
  · rfl
  · exact hx⟩
instance : Inhabited Value := ⟨undef⟩
instance : Inhabited (HkV × Value) := ⟨(default, .slice none 0 0)⟩
def lnH (x : HkV × Value) : Hold := hG lnK 9 x.2 x.1.ls
def rowH (a : Option Addr) (c : Nat) (V : List (HkV × Value)) : Hold := hG hkK HunkT (.slice a V.length c) V
theorem infoHk : (Tryd.prog.info? HunkT).map (fun i => (i.zero, i.size, i.bytes)) = some (some (.agg #[.int .i64 0, .int .i64 0, .slice none 0 0]), 3, 40) := by kernel_rfl
theorem infoStH : (Tryd.prog.info? 9).map (fun i => (i.zero, i.size, i.bytes)) = some (some (.string ByteArray.empty), 1, 16) := by kernel_rfl
/-- The boxes of hunks: of the hunks, both places, of whether one is open. -/
structure HkL (w0 W : World) (s base gl gi gj go : Nat) (lv : Value) (i j : Nat) (op : Bool) : Prop where
  l : W.cell? ⟨gl, 0, none⟩ = some lv
  i : W.cell? ⟨gi, 0, none⟩ = some (.int .i64 (i : Nat))
  j : W.cell? ⟨gj, 0, none⟩ = some (.int .i64 (j : Nat))
  o : W.cell? ⟨go, 0, none⟩ = some (.bool op)
  fl : W.frozen? ⟨gl, 0, none⟩ = false
  fi : W.frozen? ⟨gi, 0, none⟩ = false
  fj : W.frozen? ⟨gj, 0, none⟩ = false
  fo : W.frozen? ⟨go, 0, none⟩ = false
  low : Below s w0 W
  ge : s ≤ gl ∧ s ≤ gi ∧ s ≤ gj ∧ s ≤ go
  lt : gl < base ∧ gi < base ∧ gj < base ∧ go < base
  ne : gl ≠ gi ∧ gl ≠ gj ∧ gl ≠ go ∧ gi ≠ gj ∧ gi ≠ go ∧ gj ≠ go
  size : base ≤ W.heap.size
section
variable {w0 W W' : World} {s base gl gi gj go : Nat} {lv : Value} {i j : Nat} {op : Bool}
theorem HkL.grown (h : HkL w0 W s base gl gi gj go lv i j op) {row : Option Nat} (hg : W.grownBy W' row) (hr : ∀ k, row = some k → base ≤ k) : HkL w0 W' s base gl gi gj go lv i j op := by
  have hne : ∀ g, g < base → some g ≠ row := fun g hg e => by have := hr g e.symm; omega
  have hfz : ∀ g, g < base → W'.frozen? ⟨g, 0, none⟩ = W.frozen? ⟨g, 0, none⟩ := fun g hg' => World.frozen?_of_block (a := ⟨g, 0, none⟩) (hg.block g (by have := h.size; omega) (hne g hg'))
  refine ⟨hg.cell h.l (hne _ h.lt.1), hg.cell h.i (hne _ h.lt.2.1), hg.cell h.j (hne _ h.lt.2.2.1), hg.cell h.o (hne _ h.lt.2.2.2), (hfz _ h.lt.1).trans h.fl, (hfz _ h.lt.2.1).trans h.fi, (hfz _ h.lt.2.2.1).trans h.fj, (hfz _ h.lt.2.2.2).trans h.fo, ?_, h.ge, h.lt, h.ne, Nat.le_trans h.size hg.size⟩
  refine ⟨hg.os.trans h.low.os, hg.tape.trans h.low.tape, hg.output.trans h.low.output, Nat.le_trans h.low.size hg.size, fun k hk => ?_⟩
  rw [hg.block k (by have h1 := h.size; have h2 := h.ge.1; have h3 := h.lt.1; omega) (hne k (by have h2 := h.ge.1; have h3 := h.lt.1; omega))]
  exact h.low.block k hk
theorem set_ne {W : World} {g g' : Nat} (u : Value) (h : g ≠ g') : (W.setCell ⟨g, 0, none⟩ u).cell? ⟨g', 0, none⟩ = W.cell? ⟨g', 0, none⟩ :=
  World.cell?_setCell_other (w := W) (a := ⟨g, 0, none⟩) (b := ⟨g', 0, none⟩) (v := _) (h := fun e => h (by injection e))
theorem HkL.setl (h : HkL w0 W s base gl gi gj go lv i j op) (lv' : Value) : HkL w0 (W.setCell ⟨gl, 0, none⟩ lv') s base gl gi gj go lv' i j op := by
  have hn := h.ne
  exact ⟨World.cell?_setCell_same (a := ⟨gl, 0, none⟩) (v := _) (h := h.l), by rw [set_ne _ hn.1]; exact h.i, by rw [set_ne _ hn.2.1]; exact h.j, by rw [set_ne _ hn.2.2.1]; exact h.o, by rw [World.frozen?_setCell]; exact h.fl, by rw [World.frozen?_setCell]; exact h.fi, by rw [World.frozen?_setCell]; exact h.fj, by rw [World.frozen?_setCell]; exact h.fo, h.low.setCell (p := ⟨gl, 0, none⟩) h.ge.1 _, h.ge, h.lt, h.ne, by simpa using h.size⟩
theorem HkL.seti (h : HkL w0 W s base gl gi gj go lv i j op) (i' : Nat) : HkL w0 (W.setCell ⟨gi, 0, none⟩ (.int .i64 (i' : Nat))) s base gl gi gj go lv i' j op := by
  have hn := h.ne
  exact ⟨by rw [set_ne _ hn.1.symm]; exact h.l, World.cell?_setCell_same (a := ⟨gi, 0, none⟩) (v := _) (h := h.i), by rw [set_ne _ hn.2.2.2.1]; exact h.j, by rw [set_ne _ hn.2.2.2.2.1]; exact h.o, by rw [World.frozen?_setCell]; exact h.fl, by rw [World.frozen?_setCell]; exact h.fi, by rw [World.frozen?_setCell]; exact h.fj, by rw [World.frozen?_setCell]; exact h.fo, h.low.setCell (p := ⟨gi, 0, none⟩) h.ge.2.1 _, h.ge, h.lt, h.ne, by simpa using h.size⟩
theorem HkL.setj (h : HkL w0 W s base gl gi gj go lv i j op) (j' : Nat) : HkL w0 (W.setCell ⟨gj, 0, none⟩ (.int .i64 (j' : Nat))) s base gl gi gj go lv i j' op := by
  have hn := h.ne
  exact ⟨by rw [set_ne _ hn.2.1.symm]; exact h.l, by rw [set_ne _ hn.2.2.2.1.symm]; exact h.i, World.cell?_setCell_same (a := ⟨gj, 0, none⟩) (v := _) (h := h.j), by rw [set_ne _ hn.2.2.2.2.2]; exact h.o, by rw [World.frozen?_setCell]; exact h.fl, by rw [World.frozen?_setCell]; exact h.fi, by rw [World.frozen?_setCell]; exact h.fj, by rw [World.frozen?_setCell]; exact h.fo, h.low.setCell (p := ⟨gj, 0, none⟩) h.ge.2.2.1 _, h.ge, h.lt, h.ne, by simpa using h.size⟩
theorem HkL.seto (h : HkL w0 W s base gl gi gj go lv i j op) (op' : Bool) : HkL w0 (W.setCell ⟨go, 0, none⟩ (.bool op')) s base gl gi gj go lv i j op' := by
  have hn := h.ne
  exact ⟨by rw [set_ne _ hn.2.2.1.symm]; exact h.l, by rw [set_ne _ hn.2.2.2.2.1.symm]; exact h.i, by rw [set_ne _ hn.2.2.2.2.2.symm]; exact h.j, World.cell?_setCell_same (a := ⟨go, 0, none⟩) (v := _) (h := h.o), by rw [World.frozen?_setCell]; exact h.fl, by rw [World.frozen?_setCell]; exact h.fi, by rw [World.frozen?_setCell]; exact h.fj, by rw [World.frozen?_setCell]; exact h.fo, h.low.setCell (p := ⟨go, 0, none⟩) h.ge.2.2.2 _, h.ge, h.lt, h.ne, by simpa using h.size⟩
end
/-- The hunks in memory: their row, and each one's lines, none in a block of another one. -/
def HkH (W : World) (base : Nat) (a : Option Addr) (c : Nat) (V : List (HkV × Value)) : Prop := Holds W base (rowH a c V :: V.reverse.map lnH) ∧ ∀ x ∈ V, x.2.oneCell' = true
section
variable {W W' : World} {base : Nat} {a : Option Addr} {c : Nat} {V : List (HkV × Value)}
theorem HkH.row (h : HkH W base a c V) : OwnG hkK HunkT W base (.slice a V.length c) V := ⟨h.1.own (rowH a c V) (List.mem_cons_self ..), h.2⟩
theorem HkH.ln (h : HkH W base a c V) {x : HkV × Value} (hx : x ∈ V) : OwnG lnK 9 W base x.2 x.1.ls := ⟨h.1.own (lnH x) (List.mem_cons_of_mem _ (List.mem_map.2 ⟨x, by simpa using hx, rfl⟩)), fun _ _ => trivial⟩
theorem HkH.below (h : HkH W base a c V) (hb : Below W.heap.size W W') : HkH W' base a c V := ⟨h.1.below hb, h.2⟩
theorem HkH.setLow (h : HkH W base a c V) {g : Nat} (hg : g < base) (u : Value) : HkH (W.setCell ⟨g, 0, none⟩ u) base a c V := ⟨h.1.setLow hg 0 u, h.2⟩
/-- A hunk more, without lines. -/
theorem HkH.more (h : HkH W base a c V) (y : HkV) (hy : y.ls = []) {a' : Option Addr} {c' : Nat} (ho : OwnG hkK HunkT W' base (.slice a' (V.length + 1) c') (V ++ [(y, .slice none 0 0)])) (hg : W.grownBy W' (Value.slice a V.length c).ownBlock) (ht : Told W (.slice a V.length c) (.slice a' (V.length + 1) c')) : HkH W' base a' c' (V ++ [(y, .slice none 0 0)]) := by
  have h1 := h.1.put (h' := rowH a' c' (V ++ [(y, .slice none 0 0)])) hg (by
    have := ho.1
    have e : (V ++ [(y, Value.slice none 0 0)]).length = V.length + 1 := by simp
    show W'.ownsRow base HunkT 3 (.slice a' (V ++ [(y, Value.slice none 0 0)]).length c') (V ++ [(y, Value.slice none 0 0)]).length (flatG hkK (V ++ [(y, Value.slice none 0 0)]))
    rw [e]
    rw [e] at this
    exact this) (by
    show Told W (.slice a V.length c) (.slice a' (V ++ [(y, Value.slice none 0 0)]).length c')
    rw [List.length_append]; exact ht)
  obtain ⟨h2, h3⟩ := h1
  obtain ⟨h4, h5⟩ := List.pairwise_cons.1 h3
  have hn : (lnH (y, .slice none 0 0)).At W' base := by
    show W'.ownsRow base 9 1 (.slice none 0 0) y.ls.length (flatG lnK y.ls)
    rw [hy]; exact World.ownsRow_nil _ _ _ _
  have e : (V ++ [(y, Value.slice none 0 0)]).reverse.map lnH = lnH (y, .slice none 0 0) :: V.reverse.map lnH := by rw [List.reverse_append]; rfl
  refine ⟨⟨fun x hx => ?_, ?_⟩, fun x hx => ?_⟩
  · rw [e] at hx
    rcases List.mem_cons.1 hx with rfl | hx
    · exact h2 _ (by simp)
    · rcases List.mem_cons.1 hx with rfl | hx
      · exact hn
      · exact h2 x (List.mem_cons_of_mem _ hx)
  · rw [e]
    refine List.pairwise_cons.2 ⟨fun x hx => ?_, List.pairwise_cons.2 ⟨(fun x _ k hk => by cases hk), h5⟩⟩
    rcases List.mem_cons.1 hx with rfl | hx
    · exact fun k _ hk => by cases hk
    · exact h4 x hx
  · rcases List.mem_append.1 hx with hx | hx
    · exact h.2 x hx
    · rw [List.mem_singleton.1 hx]; rfl
/-- A line more in the last hunk; its slice stored into the row. -/
theorem HkH.line {y : HkV} {v v' : Value} {l' : List Ln} {w' : World} {g : Nat} (h : HkH W base (some ⟨g, 0, none⟩) c (V ++ [(y, v)])) (ho : OwnG lnK 9 w' base v' l') (hv' : v'.oneCell' = true) (hg : W.grownBy w' v.ownBlock) (ht : Told W v v') :
    HkH (w'.setCell ⟨g, V.length * 3 + 2, none⟩ v') base (some ⟨g, 0, none⟩) c (V ++ [(⟨y.f, y.t, l'⟩, v')]) := by
  have e : ∀ z : HkV × Value, (V ++ [z]).reverse.map lnH = lnH z :: V.reverse.map lnH := fun z => by rw [List.reverse_append]; rfl
  have h1 := h.1
  rw [e] at h1
  have h2 := (h1.perm (List.Perm.swap _ _ _)).put (h' := lnH (⟨y.f, y.t, l'⟩, v')) hg ho.1 ht
  have h3 := h2.perm (List.Perm.swap _ _ _)
  have hrow : OwnG hkK HunkT w' base (.slice (some ⟨g, 0, none⟩) (V ++ [(y, v)]).length c) (V ++ [(y, v)]) := ⟨h3.own (rowH (some ⟨g, 0, none⟩) c (V ++ [(y, v)])) (List.mem_cons_self ..), h.2⟩
  have hst := hrow.store (j := V.length) (i := 2) (by simp) (by decide) v' (⟨y.f, y.t, l'⟩, v') (by
    have e2 : gd (V ++ [(y, v)]) V.length = (y, v) := by unfold gd; simp
    rw [e2]; rfl) hv'
  have e3 : (V ++ [(y, v)]).set V.length (⟨y.f, y.t, l'⟩, v') = V ++ [(⟨y.f, y.t, l'⟩, v')] := by rw [List.set_append_right _ _ (Nat.le_refl _), Nat.sub_self]; rfl
  rw [e3] at hst
  have el : (V ++ [(y, v)]).length = (V ++ [((⟨y.f, y.t, l'⟩ : HkV), v')]).length := by simp
  refine ⟨?_, hst.2⟩
  rw [e]
  refine h3.put (h' := rowH (some ⟨g, 0, none⟩) c (V ++ [(⟨y.f, y.t, l'⟩, v')])) (grown_set w' g (V.length * 3 + 2) v') ?_ (.inl ?_)
  · have := hst.1
    rw [el] at this
    exact this
  · show (Value.slice (some ⟨g, 0, none⟩) (V ++ [((⟨y.f, y.t, l'⟩ : HkV), v')]).length c).ownBlock = (Value.slice (some ⟨g, 0, none⟩) (V ++ [(y, v)]).length c).ownBlock
    rw [el]
end
end Go.Proofs.YtfoalaoanpbmeaaDoor

namespace Go.Proofs.YtfoalaoanpbmeaaDoor
open Go.RowKit Go.Lib

theorem HkH.slot {W : World} {base : Nat} {c : Nat} {V : List (HkV × Value)} {y : HkV} {v v' : Value} {l' : List Ln} {w' : World} {g : Nat} (h : HkH W base (some ⟨g, 0, none⟩) c (V ++ [(y, v)])) (ho : OwnG lnK 9 w' base v' l') (hg : W.grownBy w' v.ownBlock) (ht : Told W v v') :
    w'.cell? ⟨g, V.length * 3 + 2, none⟩ = some v ∧ w'.frozen? ⟨g, V.length * 3 + 2, none⟩ = false ∧ base ≤ g := by
  have e : ∀ z : HkV × Value, (V ++ [z]).reverse.map lnH = lnH z :: V.reverse.map lnH := fun z => by rw [List.reverse_append]; rfl
  have h1 := h.1
  rw [e] at h1
  have h2 := (h1.perm (List.Perm.swap _ _ _)).put (h' := lnH (⟨y.f, y.t, l'⟩, v')) hg ho.1 ht
  have h3 := h2.perm (List.Perm.swap _ _ _)
  have hrow : OwnG hkK HunkT w' base (.slice (some ⟨g, 0, none⟩) (V ++ [(y, v)]).length c) (V ++ [(y, v)]) := ⟨h3.own (rowH (some ⟨g, 0, none⟩) c (V ++ [(y, v)])) (List.mem_cons_self ..), h.2⟩
  obtain ⟨g', hg', h5, _, h6⟩ := hrow.row (by simp)
  obtain rfl : g = g' := by injection hg' with e1; injection e1
  refine ⟨?_, h6 _, h5⟩
  have := hrow.atG.cell V.length (by simp) 2 v (by
    have e2 : gd (V ++ [(y, v)]) V.length = (y, v) := by unfold gd; simp
    rw [e2]; rfl)
  rw [show 0 + V.length * hkK.k + 2 = V.length * 3 + 2 by show 0 + V.length * 3 + 2 = _; omega] at this
  exact this
theorem HkH.slot0 {W : World} {base : Nat} {c : Nat} {V : List (HkV × Value)} {y : HkV} {v : Value} {g : Nat} (h : HkH W base (some ⟨g, 0, none⟩) c (V ++ [(y, v)])) : W.cell? ⟨g, V.length * 3 + 2, none⟩ = some v := by
  have := h.row.atG.cell V.length (by simp) 2 v (by
    have e2 : gd (V ++ [(y, v)]) V.length = (y, v) := by unfold gd; simp
    rw [e2]; rfl)
  rw [show 0 + V.length * hkK.k + 2 = V.length * 3 + 2 by show 0 + V.length * 3 + 2 = _; omega] at this
  exact this
theorem run_catL (l m : List UInt8) (h : l.length + m.length ≤ 9223372036854775807) (W : World) : (Op.stringOp .add (strB l) (strB m)).run Tryd.prog W = .ok (.string (strB (l ++ m))) W := by
  have hm : ¬ (((strB l).size + (strB m).size : Nat) : Int) > IntKind.i64.max := by
    rw [strB_size, strB_size]
    simp only [IntKind.max, IntKind.signed, IntKind.bits]
    simp; omega
  unfold Op.stringOp
  simp only [hm, if_false, Sem.run_pure]
  congr 2
/-- A line more in what is open. -/
def PutIs (w0 : World) (s base gl gi gj go i j : Nat) (V : List (HkV × Value)) (y : HkV) (x : Ln) (e : Ending) (W' : World) : Prop :=
  e = .returned (.tuple #[]) ∧ ∃ a c v, HkL w0 W' s base gl gi gj go (.slice a (V.length + 1) c) i j true ∧ HkH W' base a c (V ++ [(⟨y.f, y.t, y.ls ++ [x]⟩, v)])
theorem len_snoc {α : Type} (V : List α) (x : α) : (V ++ [x]).length = V.length + 1 := by simp
set_option maxRecDepth 100000 in
set_option maxHeartbeats 2000000 in
theorem put_on (w0 W : World) (s base gl gi gj go i j : Nat) (a : Option Addr) (c : Nat) (V : List (HkV × Value)) (y : HkV) (v : Value) (z : Int) (u : UInt8) (l : Ln)
    (hL : HkL w0 W s base gl gi gj go (.slice a (V.length + 1) c) i j true) (hH : HkH W base a c (V ++ [(y, v)])) (hV : V.length ≤ 100000) (hy : y.ls.length ≤ 100000) (hl : l.length ≤ 4000000000)
    (hcv : ∀ w, (convert 21 9 (.int .i32 z)).run Tryd.prog w = .ok (.string (strB [u])) w) :
    Calls Tryd.prog 41 #[.int .i32 z, .string (strB l), .pointer (some ⟨go, 0, none⟩), .pointer (some ⟨gl, 0, none⟩), .pointer (some ⟨gi, 0, none⟩), .pointer (some ⟨gj, 0, none⟩)] W (PutIs w0 s base gl gi gj go i j V y (u :: l)) := by
  have hrow := hH.row
  rw [len_snoc] at hrow
  obtain ⟨g, rfl, hgb, hgl, hgf⟩ := hrow.row (by omega)
  have hls := hH.ln (x := (y, v)) (by simp)
  obtain ⟨av, cv, hav, hat⟩ := hls.atG_
  obtain rfl : v = .slice av y.ls.length cv := hav
  obtain ⟨m, hm⟩ : ∃ m, y.ls.length = m := ⟨_, rfl⟩
  obtain ⟨k, hk⟩ : ∃ k, V.length = k := ⟨_, rfl⟩
  obtain ⟨N, hN⟩ : ∃ N, k + 1 = N := ⟨_, rfl⟩
  have HH := Lib.hid hH
  have HO := Lib.hid hls
  have ks0 := hH.slot0
  rw [hk, hm] at ks0
  have kl := hL.l
  rw [hk, hN] at kl
  have ko := hL.o
  have HL := Lib.hid hL
  have HM := Lib.hid hm
  have HK := Lib.hid hk
  have HNE := Lib.hid hN
  have HB : Hid (V.length ≤ 100000 ∧ y.ls.length ≤ 100000 ∧ l.length ≤ 4000000000) := Lib.hid ⟨hV, hy, hl⟩
  have W1 : IntKind.i64.wrap ((N : Int) - 1) = (k : Int) := by rw [IntWalk.i64_in _ (by omega)]; omega
  have hk0 : (0 : Int) ≤ (k : Int) := by omega
  have hkN : (k : Int) < (N : Int) := by omega
  have hcat := run_catL [u] l (by simp; omega)
  rw [hm] at HO
  have HKA : Hid (Below W.heap.size W (W.alloc (.cells #[.string (strB (u :: l))] 9))) := Lib.hid ((Below.refl _ _).alloc (Nat.le_refl _) _)
  clear hrow hH hls hat hL hV hy hl hgb hgl hgf hm hk hN
  go_enter Tryd.func41, Tryd.ntmps41
  go_wp2_with (at_builtin; go_loud (refine appG_told lnK Tryd.underlying32 infoStH rfl rfl _ _ rfl base _ y.ls rfl (HO.out.alloc _) (some ⟨W.heap.size, 0, none⟩) 1 1 [u :: l] rfl (oneG W (u :: l) trivial 9 _ rfl) (by have := HB.out; omega) (by have := HL.out.size; simp; omega) (m + 1) (by rw [HM.out]) ?_); intro a6 c6 w6 ho hg ht; have HO6 := Lib.hid ho; have HG6 := Lib.hid hg; have HT6 := Lib.hid ht; obtain ⟨k6, z6, hgb6⟩ := (HH.out.below HKA.out).slot ho (by rw [HM.out]; exact hg) (by rw [HM.out]; exact ht); rw [HK.out, HM.out] at k6; rw [HK.out] at z6; have HGB := Lib.hid hgb6; clear ho hg ht hgb6)
  refine bodyPost_end (results_none rfl _ _ _) rfl ?_
  refine ⟨rfl, some ⟨g, 0, none⟩, c, .slice a6 (m + 1) c6, ?_, ?_⟩
  · exact ((HL.out.grown (World.grownBy_alloc W _ none) (fun k h => by cases h)).grown HG6.out (fun k h => (HO.out.lt k h).1)).grown (grown_set w6 g (k * 3 + 2) _) (fun k' h => by have := HGB.out; have := Option.some.inj h; omega)
  · have h := (HH.out.below HKA.out).line HO6.out rfl (by rw [HM.out]; exact HG6.out) (by rw [HM.out]; exact HT6.out)
    rw [HK.out] at h
    exact h
set_option maxRecDepth 100000 in
set_option maxHeartbeats 2000000 in
theorem put_new (w0 W : World) (s base gl gi gj go i j : Nat) (a : Option Addr) (c : Nat) (V : List (HkV × Value)) (z : Int) (u : UInt8) (l : Ln)
    (hL : HkL w0 W s base gl gi gj go (.slice a V.length c) i j false) (hH : HkH W base a c V) (hV : V.length ≤ 100000) (hl : l.length ≤ 4000000000)
    (hcv : ∀ w, (convert 21 9 (.int .i32 z)).run Tryd.prog w = .ok (.string (strB [u])) w) :
    Calls Tryd.prog 41 #[.int .i32 z, .string (strB l), .pointer (some ⟨go, 0, none⟩), .pointer (some ⟨gl, 0, none⟩), .pointer (some ⟨gi, 0, none⟩), .pointer (some ⟨gj, 0, none⟩)] W (PutIs w0 s base gl gi gj go i j V ⟨i, j, []⟩ (u :: l)) := by
  obtain ⟨k, hk⟩ : ∃ k, V.length = k := ⟨_, rfl⟩
  obtain ⟨N, hN⟩ : ∃ N, k + 1 = N := ⟨_, rfl⟩
  have HH := Lib.hid hH
  have HL := Lib.hid hL
  have kl := hL.l
  have ki := hL.i
  have kj := hL.j
  have ko := hL.o
  rw [hk] at kl
  have HR : Hid (OwnG hkK HunkT W base (.slice a k c) V) := Lib.hid (by have := hH.row; rw [hk] at this; exact this)
  have HK := Lib.hid hk
  have HNE := Lib.hid hN
  have HB : Hid (V.length ≤ 100000 ∧ l.length ≤ 4000000000) := Lib.hid ⟨hV, hl⟩
  have W1 : IntKind.i64.wrap ((N : Int) - 1) = (k : Int) := by rw [IntWalk.i64_in _ (by omega)]; omega
  have hk0 : (0 : Int) ≤ (k : Int) := by omega
  have hkN : (k : Int) < (N : Int) := by omega
  have hcat := run_catL [u] l (by simp; omega)
  have HKA : Hid (∀ W : World, ∀ o, Below W.heap.size W (W.alloc o)) := Lib.hid (fun W o => (Below.refl _ _).alloc (Nat.le_refl _) o)
  clear hH hL hV hl hk hN
  go_enter Tryd.func41, Tryd.ntmps41
  go_wp2_with (first
    | (at_builtin; (with_reducible show wpList _ _ _ (⟨some 16, _, _, _, _, _⟩ :: _) _ _); go_loud (refine appG_told hkK Tryd.underlying22 infoHk rfl rfl _ _ rfl base _ V rfl (HR.out.alloc _) (some ⟨W.heap.size, 0, none⟩) 1 1 [((⟨i, j, []⟩ : HkV), Value.slice none 0 0)] rfl (oneG W ((⟨i, j, []⟩ : HkV), Value.slice none 0 0) rfl HunkT _ rfl) (by have := HB.out; omega) (by have := HL.out.size; simp; omega) N (by rw [← HNE.out, HK.out]) ?_); intro a2 c2 w2 ho hg ht; have hL2 := ((HL.out.grown (World.grownBy_alloc W _ none) (fun k h => by cases h)).grown hg (fun k h => (HR.out.lt k h).1)); have hH2 := (HH.out.below (HKA.out W _)).more ⟨i, j, []⟩ rfl (by rw [HK.out, HNE.out]; exact ho) (by rw [HK.out]; exact hg) (by rw [HK.out, HNE.out]; exact ht); obtain ⟨g, rfl, hgb, hgl, hgf⟩ := ho.row (by have := HNE.out; omega); obtain ⟨w3, hw3⟩ : ∃ X, w2.setCell ⟨gl, 0, none⟩ (.slice (some ⟨g, 0, none⟩) N c2) = X := ⟨_, rfl⟩; obtain ⟨w4, hw4⟩ : ∃ X, w3.setCell ⟨go, 0, none⟩ (.bool true) = X := ⟨_, rfl⟩; have kl2 := hL2.l; have fl2 := hL2.fl; have hL3 := hL2.setl (.slice (some ⟨g, 0, none⟩) N c2); rw [hw3] at hL3; have hH3 := hH2.setLow hL2.lt.1 (.slice (some ⟨g, 0, none⟩) N c2); rw [hw3] at hH3; have ko3 := hL3.o; have fo3 := hL3.fo; have hL4 := hL3.seto true; rw [hw4] at hL4; have hH4 := hH3.setLow hL3.lt.2.2.2 (.bool true); rw [hw4] at hH4; have kl4 := hL4.l; have ks4 := hH4.slot0; rw [HK.out] at ks4; have HL4 := Lib.hid hL4; have HH4 := Lib.hid hH4; have HO4 := Lib.hid (hH4.ln (x := ((⟨i, j, []⟩ : HkV), Value.slice none 0 0)) (by simp)); clear ho hg ht hL2 hH2 hL3 hH3 hL4 hH4 hgb hgl hgf)
    | (at_builtin; (with_reducible show wpList _ _ _ (⟨some 32, _, _, _, _, _⟩ :: _) _ _); go_loud (refine appG_told lnK Tryd.underlying32 infoStH rfl rfl _ _ rfl base _ [] rfl (HO4.out.alloc _) (some ⟨w4.heap.size, 0, none⟩) 1 1 [u :: l] rfl (oneG w4 (u :: l) trivial 9 _ rfl) (by simp) (by have := HL4.out.size; simp; omega) 1 rfl ?_); intro a6 c6 w6 ho hg ht; have HO6 := Lib.hid ho; have HG6 := Lib.hid hg; have HT6 := Lib.hid ht; obtain ⟨k6, z6, hgb6⟩ := (HH4.out.below (HKA.out w4 _)).slot ho hg ht; rw [HK.out] at k6 z6; have HGB := Lib.hid hgb6; clear ho hg ht hgb6))
  refine bodyPost_end (results_none rfl _ _ _) rfl ?_
  refine ⟨rfl, some ⟨g, 0, none⟩, c2, .slice a6 1 c6, ?_, ?_⟩
  · have h := ((HL4.out.grown (World.grownBy_alloc w4 _ none) (fun k h => by cases h)).grown HG6.out (fun k h => by cases h)).grown (grown_set w6 g (k * 3 + 2) (.slice a6 1 c6)) (fun k' h => by have := HGB.out; have := Option.some.inj h; omega)
    rw [HK.out, HNE.out]
    exact h
  · have h := (HH4.out.below (HKA.out w4 _)).line HO6.out rfl HG6.out HT6.out
    rw [HK.out] at h
    exact h
#print axioms put_new
end Go.Proofs.YtfoalaoanpbmeaaDoor
