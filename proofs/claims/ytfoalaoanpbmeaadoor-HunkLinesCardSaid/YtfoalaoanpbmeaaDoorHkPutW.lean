/-
  The walk of the closure of hunks: a line put into the hunk that is open, or into a new one.
-/
import Derived.Test.YtfoalaoanpbmeaaDoorHkPut
namespace Go.Proofs.YtfoalaoanpbmeaaDoor
open Go.RowKit Go.Lib

theorem HkH.slot {W : World} {base : Nat} {c : Nat} {V : List (HkV × Value)} {y : HkV} {v v' : Value} {l' : List Ln} {w' : World} {g : Nat} (h : HkH W base (some ⟨g, 0, none⟩) c (V ++ [(y, v)])) (ho : OwnG lnK 9 w' base v' l') (hg : W.grownBy w' v.ownBlock) (ht : Told W v v') :
    w'.cell? ⟨g, V.length * 3 + 2, none⟩ = some v ∧ w'.frozen? ⟨g, V.length * 3 + 2, none⟩ = false ∧ base ≤ g := by
  have e : ∀ z : HkV × Value, (V ++ [z]).reverse.map lnH = lnH z :: V.reverse.map lnH := fun z => by rw [List.reverse_append]; rfl
  have h1 := h.1
  rw [e] at h1
  have h2 := (h1.perm (List.Perm.swap _ _ _)).put (h' := lnH (⟨y.f, y.t, l'⟩, v')) hg ho.1 ht
  have h3 := h2.perm (List.Perm.swap _ _ _)
  have hrow : OwnG hkK HunkT w' base (.slice (some ⟨g, 0, none⟩) (V ++ [(y, v)]).length c) (V ++ [(y, v)]) := ⟨h3.own (rowH (some ⟨g, 0, none⟩) c (V ++ [(y, v)])) (List.mem_cons_self ..), h.2⟩
  obtain ⟨g', hg', h5, _, h6⟩ := hrow.row (by simp)
  obtain rfl : g = g' := by injection hg' with e1; injection e1
  refine ⟨?_, h6 _, h5⟩
  have := hrow.atG.cell V.length (by simp) 2 v (by
    have e2 : gd (V ++ [(y, v)]) V.length = (y, v) := by unfold gd; simp
    rw [e2]; rfl)
  rw [show 0 + V.length * hkK.k + 2 = V.length * 3 + 2 by show 0 + V.length * 3 + 2 = _; omega] at this
  exact this
theorem HkH.slot0 {W : World} {base : Nat} {c : Nat} {V : List (HkV × Value)} {y : HkV} {v : Value} {g : Nat} (h : HkH W base (some ⟨g, 0, none⟩) c (V ++ [(y, v)])) : W.cell? ⟨g, V.length * 3 + 2, none⟩ = some v := by
  have := h.row.atG.cell V.length (by simp) 2 v (by
    have e2 : gd (V ++ [(y, v)]) V.length = (y, v) := by unfold gd; simp
    rw [e2]; rfl)
  rw [show 0 + V.length * hkK.k + 2 = V.length * 3 + 2 by show 0 + V.length * 3 + 2 = _; omega] at this
  exact this
theorem run_catL (l m : List UInt8) (h : l.length + m.length ≤ 9223372036854775807) (W : World) : (Op.stringOp .add (strB l) (strB m)).run Tryd.prog W = .ok (.string (strB (l ++ m))) W := by
  have hm : ¬ (((strB l).size + (strB m).size : Nat) : Int) > IntKind.i64.max := by
    rw [strB_size, strB_size]
    simp only [IntKind.max, IntKind.signed, IntKind.bits]
    simp; omega
  unfold Op.stringOp
  simp only [hm, if_false, Sem.run_pure]
  congr 2
/-- A line more in what is open. -/
def PutIs (w0 : World) (s base gl gi gj go i j : Nat) (V : List (HkV × Value)) (y : HkV) (x : Ln) (e : Ending) (W' : World) : Prop :=
  e = .returned (.tuple #[]) ∧ ∃ a c v, HkL w0 W' s base gl gi gj go (.slice a (V.length + 1) c) i j true ∧ HkH W' base a c (V ++ [(⟨y.f, y.t, y.ls ++ [x]⟩, v)])
theorem len_snoc {α : Type} (V : List α) (x : α) : (V ++ [x]).length = V.length + 1 := by simp
set_option maxRecDepth 100000 in
set_option maxHeartbeats 2000000 in
theorem put_on (w0 W : World) (s base gl gi gj go i j : Nat) (a : Option Addr) (c : Nat) (V : List (HkV × Value)) (y : HkV) (v : Value) (z : Int) (u : UInt8) (l : Ln)
    (hL : HkL w0 W s base gl gi gj go (.slice a (V.length + 1) c) i j true) (hH : HkH W base a c (V ++ [(y, v)])) (hV : V.length ≤ 100000) (hy : y.ls.length ≤ 100000) (hl : l.length ≤ 4000000000)
    (hcv : ∀ w, (convert 21 9 (.int .i32 z)).run Tryd.prog w = .ok (.string (strB [u])) w) :
    Calls Tryd.prog 41 #[.int .i32 z, .string (strB l), .pointer (some ⟨go, 0, none⟩), .pointer (some ⟨gl, 0, none⟩), .pointer (some ⟨gi, 0, none⟩), .pointer (some ⟨gj, 0, none⟩)] W (PutIs w0 s base gl gi gj go i j V y (u :: l)) := by
  have hrow := hH.row
  rw [len_snoc] at hrow
  obtain ⟨g, rfl, hgb, hgl, hgf⟩ := hrow.row (by omega)
  have hls := hH.ln (x := (y, v)) (by simp)
  obtain ⟨av, cv, hav, hat⟩ := hls.atG_
  obtain rfl : v = .slice av y.ls.length cv := hav
  obtain ⟨m, hm⟩ : ∃ m, y.ls.length = m := ⟨_, rfl⟩
  obtain ⟨k, hk⟩ : ∃ k, V.length = k := ⟨_, rfl⟩
  obtain ⟨N, hN⟩ : ∃ N, k + 1 = N := ⟨_, rfl⟩
  have HH := Lib.hid hH
  have HO := Lib.hid hls
  have ks0 := hH.slot0
  rw [hk, hm] at ks0
  have kl := hL.l
  rw [hk, hN] at kl
  have ko := hL.o
  have HL := Lib.hid hL
  have HM := Lib.hid hm
  have HK := Lib.hid hk
  have HNE := Lib.hid hN
  have HB : Hid (V.length ≤ 100000 ∧ y.ls.length ≤ 100000 ∧ l.length ≤ 4000000000) := Lib.hid ⟨hV, hy, hl⟩
  have W1 : IntKind.i64.wrap ((N : Int) - 1) = (k : Int) := by rw [IntWalk.i64_in _ (by omega)]; omega
  have hk0 : (0 : Int) ≤ (k : Int) := by omega
  have hkN : (k : Int) < (N : Int) := by omega
  have hcat := run_catL [u] l (by simp; omega)
  rw [hm] at HO
  have HKA : Hid (Below W.heap.size W (W.alloc (.cells #[.string (strB (u :: l))] 9))) := Lib.hid ((Below.refl _ _).alloc (Nat.le_refl _) _)
  clear hrow hH hls hat hL hV hy hl hgb hgl hgf hm hk hN
  go_enter Tryd.func41, Tryd.ntmps41
  go_wp2_with (at_builtin; go_loud (refine appG_told lnK Tryd.underlying32 infoStH rfl rfl _ _ rfl base _ y.ls rfl (HO.out.alloc _) (some ⟨W.heap.size, 0, none⟩) 1 1 [u :: l] rfl (oneG W (u :: l) trivial 9 _ rfl) (by have := HB.out; omega) (by have := HL.out.size; simp; omega) (m + 1) (by rw [HM.out]) ?_); intro a6 c6 w6 ho hg ht; have HO6 := Lib.hid ho; have HG6 := Lib.hid hg; have HT6 := Lib.hid ht; obtain ⟨k6, z6, hgb6⟩ := (HH.out.below HKA.out).slot ho (by rw [HM.out]; exact hg) (by rw [HM.out]; exact ht); rw [HK.out, HM.out] at k6; rw [HK.out] at z6; have HGB := Lib.hid hgb6; clear ho hg ht hgb6)
  refine bodyPost_end (results_none rfl _ _ _) rfl ?_
  refine ⟨rfl, some ⟨g, 0, none⟩, c, .slice a6 (m + 1) c6, ?_, ?_⟩
  · exact ((HL.out.grown (World.grownBy_alloc W _ none) (fun k h => by cases h)).grown HG6.out (fun k h => (HO.out.lt k h).1)).grown (grown_set w6 g (k * 3 + 2) _) (fun k' h => by have := HGB.out; have := Option.some.inj h; omega)
  · have h := (HH.out.below HKA.out).line HO6.out rfl (by rw [HM.out]; exact HG6.out) (by rw [HM.out]; exact HT6.out)
    rw [HK.out] at h
    exact h
set_option maxRecDepth 100000 in
set_option maxHeartbeats 2000000 in
theorem put_new (w0 W : World) (s base gl gi gj go i j : Nat) (a : Option Addr) (c : Nat) (V : List (HkV × Value)) (z : Int) (u : UInt8) (l : Ln)
    (hL : HkL w0 W s base gl gi gj go (.slice a V.length c) i j false) (hH : HkH W base a c V) (hV : V.length ≤ 100000) (hl : l.length ≤ 4000000000)
    (hcv : ∀ w, (convert 21 9 (.int .i32 z)).run Tryd.prog w = .ok (.string (strB [u])) w) :
    Calls Tryd.prog 41 #[.int .i32 z, .string (strB l), .pointer (some ⟨go, 0, none⟩), .pointer (some ⟨gl, 0, none⟩), .pointer (some ⟨gi, 0, none⟩), .pointer (some ⟨gj, 0, none⟩)] W (PutIs w0 s base gl gi gj go i j V ⟨i, j, []⟩ (u :: l)) := by
  obtain ⟨k, hk⟩ : ∃ k, V.length = k := ⟨_, rfl⟩
  obtain ⟨N, hN⟩ : ∃ N, k + 1 = N := ⟨_, rfl⟩
  have HH := Lib.hid hH
  have HL := Lib.hid hL
  have kl := hL.l
  have ki := hL.i
  have kj := hL.j
  have ko := hL.o
  rw [hk] at kl
  have HR : Hid (OwnG hkK HunkT W base (.slice a k c) V) := Lib.hid (by have := hH.row; rw [hk] at this; exact this)
  have HK := Lib.hid hk
  have HNE := Lib.hid hN
  have HB : Hid (V.length ≤ 100000 ∧ l.length ≤ 4000000000) := Lib.hid ⟨hV, hl⟩
  have W1 : IntKind.i64.wrap ((N : Int) - 1) = (k : Int) := by rw [IntWalk.i64_in _ (by omega)]; omega
  have hk0 : (0 : Int) ≤ (k : Int) := by omega
  have hkN : (k : Int) < (N : Int) := by omega
  have hcat := run_catL [u] l (by simp; omega)
  have HKA : Hid (∀ W : World, ∀ o, Below W.heap.size W (W.alloc o)) := Lib.hid (fun W o => (Below.refl _ _).alloc (Nat.le_refl _) o)
  clear hH hL hV hl hk hN
  go_enter Tryd.func41, Tryd.ntmps41
  go_wp2_with (first
    | (at_builtin; (with_reducible show wpList _ _ _ (⟨some 16, _, _, _, _, _⟩ :: _) _ _); go_loud (refine appG_told hkK Tryd.underlying22 infoHk rfl rfl _ _ rfl base _ V rfl (HR.out.alloc _) (some ⟨W.heap.size, 0, none⟩) 1 1 [((⟨i, j, []⟩ : HkV), Value.slice none 0 0)] rfl (oneG W ((⟨i, j, []⟩ : HkV), Value.slice none 0 0) rfl HunkT _ rfl) (by have := HB.out; omega) (by have := HL.out.size; simp; omega) N (by rw [← HNE.out, HK.out]) ?_); intro a2 c2 w2 ho hg ht; have hL2 := ((HL.out.grown (World.grownBy_alloc W _ none) (fun k h => by cases h)).grown hg (fun k h => (HR.out.lt k h).1)); have hH2 := (HH.out.below (HKA.out W _)).more ⟨i, j, []⟩ rfl (by rw [HK.out, HNE.out]; exact ho) (by rw [HK.out]; exact hg) (by rw [HK.out, HNE.out]; exact ht); obtain ⟨g, rfl, hgb, hgl, hgf⟩ := ho.row (by have := HNE.out; omega); obtain ⟨w3, hw3⟩ : ∃ X, w2.setCell ⟨gl, 0, none⟩ (.slice (some ⟨g, 0, none⟩) N c2) = X := ⟨_, rfl⟩; obtain ⟨w4, hw4⟩ : ∃ X, w3.setCell ⟨go, 0, none⟩ (.bool true) = X := ⟨_, rfl⟩; have kl2 := hL2.l; have fl2 := hL2.fl; have hL3 := hL2.setl (.slice (some ⟨g, 0, none⟩) N c2); rw [hw3] at hL3; have hH3 := hH2.setLow hL2.lt.1 (.slice (some ⟨g, 0, none⟩) N c2); rw [hw3] at hH3; have ko3 := hL3.o; have fo3 := hL3.fo; have hL4 := hL3.seto true; rw [hw4] at hL4; have hH4 := hH3.setLow hL3.lt.2.2.2 (.bool true); rw [hw4] at hH4; have kl4 := hL4.l; have ks4 := hH4.slot0; rw [HK.out] at ks4; have HL4 := Lib.hid hL4; have HH4 := Lib.hid hH4; have HO4 := Lib.hid (hH4.ln (x := ((⟨i, j, []⟩ : HkV), Value.slice none 0 0)) (by simp)); clear ho hg ht hL2 hH2 hL3 hH3 hL4 hH4 hgb hgl hgf)
    | (at_builtin; (with_reducible show wpList _ _ _ (⟨some 32, _, _, _, _, _⟩ :: _) _ _); go_loud (refine appG_told lnK Tryd.underlying32 infoStH rfl rfl _ _ rfl base _ [] rfl (HO4.out.alloc _) (some ⟨w4.heap.size, 0, none⟩) 1 1 [u :: l] rfl (oneG w4 (u :: l) trivial 9 _ rfl) (by simp) (by have := HL4.out.size; simp; omega) 1 rfl ?_); intro a6 c6 w6 ho hg ht; have HO6 := Lib.hid ho; have HG6 := Lib.hid hg; have HT6 := Lib.hid ht; obtain ⟨k6, z6, hgb6⟩ := (HH4.out.below (HKA.out w4 _)).slot ho hg ht; rw [HK.out] at k6 z6; have HGB := Lib.hid hgb6; clear ho hg ht hgb6))
  refine bodyPost_end (results_none rfl _ _ _) rfl ?_
  refine ⟨rfl, some ⟨g, 0, none⟩, c2, .slice a6 1 c6, ?_, ?_⟩
  · have h := ((HL4.out.grown (World.grownBy_alloc w4 _ none) (fun k h => by cases h)).grown HG6.out (fun k h => by cases h)).grown (grown_set w6 g (k * 3 + 2) (.slice a6 1 c6)) (fun k' h => by have := HGB.out; have := Option.some.inj h; omega)
    rw [HK.out, HNE.out]
    exact h
  · have h := (HH4.out.below (HKA.out w4 _)).line HO6.out rfl HG6.out HT6.out
    rw [HK.out] at h
    exact h
#print axioms put_new
end Go.Proofs.YtfoalaoanpbmeaaDoor
