/-
  Merged: Runes, UtfRunes0, UtfRefRunes, RunesOk, Author, RfLog.
-/
import Derived.Test.YthihmlojdopmfaaDoorGrp1
import Derived.Test.YthihmlojdopmfaaDoorGrp7
import Derived.Test.YthihmlojdopmfaaDoorUtfOne
import Derived.Test.YthihmlojdopmfaaDoorGrp8
namespace Go.Proofs.YthihmlojdopmfaaDoor
open Go.RowKit

def R (b : Int) : Value := .int .i32 b

def Runs (w : World) (a : Option Addr) (n c : Nat) (l : List Int) : Prop :=
 l.length = n ∧ n ≤ c ∧ c ≤ 9223372036854775807 ∧ ((n = 0 ∧ c = 0) ∨ ∃ b off, a = some ⟨b, off, none⟩ ∧ ∀ j, j < n → w.cell? ⟨b, off + j, none⟩ = some (.int .i32 (l.getD j 0)))

def OwnR (w : World) (base : Nat) (v : Value) (l : List Int) : Prop := w.ownsRow base 21 1 v l.length (l.map R)

def MadeR (w : World) (l : List Int) (e : Ending) (w' : World) : Prop := ∃ a n c, e = .returned (.slice a n c) ∧ OwnR w' w.heap.size (.slice a n c) l ∧ Below w.heap.size w w'

theorem Tryd.infoR21 : (Tryd.prog.info? 21).map (fun i => (i.zero, i.size, i.bytes)) = some (some (.int .i32 0), 1, 4) := by kernel_rfl

theorem Runs.nil (w : World) : Runs w none 0 0 [] := ⟨rfl, Nat.le_refl _, by omega, .inl ⟨rfl, rfl⟩⟩

theorem Runs.below {w w' : World} {a : Option Addr} {n c : Nat} {l : List Int} (h : Runs w a n c l) (hb : Below w.heap.size w w') : Runs w' a n c l := by
 obtain ⟨h1, h2, h3, h4⟩ := h
 refine ⟨h1, h2, h3, ?_⟩
 rcases h4 with h4 | ⟨b, off, ha, hc⟩
 ·exact .inl h4
 ·exact .inr ⟨b, off, ha, fun j hj => (hb.cell (World.block_lt_of_cell? _ _ (hc j hj))).trans (hc j hj)⟩

theorem OwnR.nil (w : World) (base : Nat) : OwnR w base (.slice none 0 0) [] := World.ownsRow_nil _ _ _ _

theorem OwnR.runs {w : World} {base : Nat} {v : Value} {l : List Int} (h : OwnR w base v l) : ∃ a n c, v = .slice a n c ∧ Runs w a n c l := by
 have h0 := h
 obtain ⟨h1, h2⟩ := h
 rcases h2 with ⟨rfl, hn⟩ | ⟨g, cap, cur, rfl, hb, hg, hn, hm, hs, ht⟩
 ·have : l = [] := List.length_eq_zero_iff.1 hn
  subst this
  exact ⟨none, 0, 0, rfl, Runs.nil w⟩
 ·refine ⟨_, _, _, rfl, rfl, hn, by unfold maxLen at hm; omega, .inr ⟨g, 0, rfl, fun j hj => ?_⟩⟩
  have := h0.cells (g := g) rfl j (R (l.getD j 0)) (by rw [List.getElem?_map]; simp [hj])
  rw [Addr.add_lit] at this
  simpa [R] using this

theorem MadeR.of {w w' : World} {l : List Int} {v : Value} (h : OwnR w' w.heap.size v l) (hb : Below w.heap.size w w') : MadeR w l (.returned v) w' := by
 obtain ⟨a, n, c, rfl, _⟩ := h.runs
 exact ⟨a, n, c, rfl, h, hb⟩

theorem OwnR.len {w : World} {base : Nat} {a : Option Addr} {n c : Nat} {l : List Int} (h : OwnR w base (.slice a n c) l) : n = l.length := by
 obtain ⟨a', n', c', hv, hb, _⟩ := h.runs
 simp only [Value.slice.injEq] at hv
 omega

theorem OwnR.below {w w' : World} {base : Nat} {v : Value} {l : List Int} (h : OwnR w base v l) (hb : Below w.heap.size w w') : OwnR w' base v l := by
 obtain ⟨h1, h2⟩ := h
 refine ⟨h1, ?_⟩
 rcases h2 with h2 | ⟨g, cap, cur, hv, hg, hh, r⟩
 ·exact .inl h2
 ·refine .inr ⟨g, cap, cur, hv, hg, ?_, r⟩
  have hlt : g < w.heap.size := by
   rcases Nat.lt_or_ge g w.heap.size with h | h
   ·exact h
   ·rw [Array.getElem?_eq_none h] at hh; cases hh
  rw [hb.block g hlt]; exact hh

theorem OwnR.mono {w : World} {base base' : Nat} {v : Value} {l : List Int} (h : OwnR w base v l) (hb : base' ≤ base) : OwnR w base' v l := by
 obtain ⟨h1, h2⟩ := h
 refine ⟨h1, ?_⟩
 rcases h2 with h2 | ⟨g, cap, cur, hv, hg, r⟩
 ·exact .inl h2
 ·exact .inr ⟨g, cap, cur, hv, by omega, r⟩

theorem OwnR.grown {w : World} {base : Nat} {v : Value} {l : List Int} (h : OwnR w base v l) : ∀ k, v.ownBlock = some k → base ≤ k := fun k hk => (World.ownsRow.lt h k hk).1

theorem app_runs {w : World} {ops : Array Oper} {rest : List Oper} {o : Oper} {a : Act} {Q : Exit → Act → World → Prop} (hgd : o.guard = none) (s x : Operand)
  (ho : o.op = .call { callee := .builtin .append, args := #[s, x], argTypes := #[136, 136] })
  (base : Nat) (v : Value) (l : List Int) (hs : a.eval s = v) (hown : OwnR w base v l)
  (sa : Option Addr) (m c : Nat) (src : List Int) (hx : a.eval x = .slice sa m c) (hsrc : Runs w sa m c src)
  (h48 : l.length + m ≤ 35184372088832) (hbase : base ≤ w.heap.size)
  (h : ∀ v' w', OwnR w' base v' (l ++ src) → w.grownBy w' v.ownBlock → wpList Tryd.prog ops Q rest (a.put o.dst v') w') : wpList Tryd.prog ops Q (o :: rest) a w := by
 obtain ⟨i0, hi, hz0, hz1, hz2⟩ := info_parts Tryd.infoR21
 obtain ⟨h1, h2, h3, h4⟩ := hsrc
 rcases h4 with ⟨rfl, rfl⟩ | ⟨b, off, rfl, hc⟩
 ·have : src = [] := List.length_eq_zero_iff.1 h1
  subst this
  cases sa with
  | none =>
   refine wpList_append_own_none hgd s x 136 ho base 21 i0 1 Tryd.underlying136 hi v l.length (l.map R) hs hown hx ?_
   exact h v w (by rw [List.append_nil]; exact hown) ⟨rfl, rfl, rfl, Nat.le_refl _, fun _ _ _ => rfl⟩
  | some ad =>
   refine wpList_append_own w hgd s x 136 ho base 21 i0 (.int .i32 0) 1 4 Tryd.underlying136 hi hz0 hz1 hz2 rfl (by decide) v l.length (l.map R) hs hown
    ad 0 0 [] hx (by simp) (by simp) (by simp) (by unfold maxLen; omega) (by omega) hbase ?_
   intro v' w' h5 h6 _
   exact h v' w' (by rw [List.append_nil]; simpa [OwnR] using h5) h6
 ·refine wpList_append_own w hgd s x 136 ho base 21 i0 (.int .i32 0) 1 4 Tryd.underlying136 hi hz0 hz1 hz2 rfl (by decide) v l.length (l.map R) hs hown
   ⟨b, off, none⟩ m c (src.map R) hx (by simp [h1]) ?_ ?_ (by unfold maxLen; omega) (by omega) hbase ?_
  ·intro j u hu
   rw [List.getElem?_map] at hu
   have hj : j < src.length := by
    rcases Nat.lt_or_ge j src.length with h | h
    ·exact h
    ·rw [List.getElem?_eq_none h] at hu; cases hu
   have := hc j (by omega)
   simp only [List.getElem?_eq_getElem hj, Option.map_some, Option.some.injEq] at hu
   subst hu
   rw [Addr.add_lit]
   simpa [R, hj] using this
  ·intro u hu
   obtain ⟨x, _, rfl⟩ := List.mem_map.1 hu
   rfl
  ·intro v' w' h5 h6 _
   refine h v' w' ?_ h6
   unfold OwnR
   rw [List.length_append, List.map_append, h1]
   exact h5

theorem runs_one (w : World) (x : Int) : Runs (w.alloc (.cells #[.int .i32 x] 21)) (some ⟨w.heap.size, 0, none⟩) 1 1 [x] := by
 refine ⟨rfl, Nat.le_refl _, by omega, .inr ⟨_, _, rfl, fun j hj => ?_⟩⟩
 obtain rfl : j = 0 := by omega
 simp

theorem OwnR.alloc {w : World} {base : Nat} {v : Value} {l : List Int} (h : OwnR w base v l) (o : Obj) : OwnR (w.alloc o) base v l := World.ownsRow.alloc h o

end Go.Proofs.YthihmlojdopmfaaDoor

namespace Go.Proofs.YthihmlojdopmfaaDoor
open Go.RowKit

def zs (l : List Nat) : List Int := l.map fun n : Nat => (n : Int)
theorem zs_length (l : List Nat) : (zs l).length = l.length := by simp [zs]
theorem zs_append (l m : List Nat) : zs (l ++ m) = zs l ++ zs m := by simp [zs]
def runE (l : List UInt8) : List Nat × Nat × Nat := match runesF l with | (some L, _) => (L, 0, 0) | (none, p) => ([], p, 5)
theorem runE_some {l : List UInt8} {L : List Nat} {e : Nat} (h : runesF l = (some L, e)) : runE l = (L, 0, 0) := by unfold runE; rw [h]
theorem runE_none {l : List UInt8} {p : Nat} (h : runesF l = (none, p)) : runE l = ([], p, 5) := by unfold runE; rw [h]

def RunIs (r : List Nat × Nat × Nat) (w : World) (e : Ending) (w' : World) : Prop :=
 ∃ a n c, e = .returned (.tuple #[.slice a n c, .int .i64 r.2.1, .int .i64 r.2.2]) ∧ OwnR w' w.heap.size (.slice a n c) (zs r.1) ∧ Below w.heap.size w w'

theorem RunIs.of {r : List Nat × Nat × Nat} {w w' : World} {v : Value} (h : OwnR w' w.heap.size v (zs r.1)) (hb : Below w.heap.size w w') :
  RunIs r w (.returned (.tuple #[v, .int .i64 r.2.1, .int .i64 r.2.2])) w' := by
 obtain ⟨a, n, c, rfl, _⟩ := h.runs
 exact ⟨a, n, c, rfl, h, hb⟩

end Go.Proofs.YthihmlojdopmfaaDoor

namespace Go.Proofs.YthihmlojdopmfaaDoor
open Go.RowKit

theorem one_some (s : ByteArray) (p n k : Nat) (V Z : Int) (w : World) (hs : s.size ≤ 140737488355328) (hp : p < s.size) (hd : decF (s.data.toList.drop p) = some (n, k)) (hV : V = (n : Int)) (hZ : Z = (k : Int)) :
  Calls Tryd.prog 90 #[.string s, .int .i64 (p : Int)] w fun e w' => e = .returned (.tuple #[.int .i32 V, .int .i64 Z]) ∧ Below w.heap.size w w' :=
 (one_any s p w (by omega) hp).mono fun _ _ h => ⟨h.1.trans (by rw [oneF_some hd, hV, hZ]), h.2⟩
theorem one_none (s : ByteArray) (p : Nat) (w : World) (hs : s.size ≤ 140737488355328) (hp : p < s.size) (hd : decF (s.data.toList.drop p) = none) :
  Calls Tryd.prog 90 #[.string s, .int .i64 (p : Int)] w fun e w' => e = .returned (.tuple #[.int .i32 0, .int .i64 0]) ∧ Below w.heap.size w w' :=
 (one_any s p w (by omega) hp).mono fun _ _ h => ⟨h.1.trans (by rw [oneF_none hd]; rfl), h.2⟩

set_option maxRecDepth 100000 in
set_option maxHeartbeats 1000000 in
theorem refRunes_any (s : ByteArray) (w : World) (hs : s.size ≤ 20000000000) :
  Calls Tryd.prog 86 #[.string s] w (RunIs (runE s.data.toList) w) := by
 have hsI : (s.size : Int) ≤ 20000000000 := by omega
 have HS := Lib.hid hs
 have HI := Lib.hid (Inv.start s.data.toList)
 clear hs
 go_enter Tryd.func86, Tryd.ntmps86
 go_wp2
 go_loopg [5, 6] s.size (fun g v5 v6 W => ∃ (p : Nat) (acc : List Nat), Below w.heap.size w W ∧ OwnR W w.heap.size v5 (zs acc) ∧ v6 = .int .i64 p ∧ g + p = s.size ∧ acc.length ≤ p ∧ Hid (Inv s.data.toList p acc))
 case atStart => exact ⟨0, [], Below.refl _ _, OwnR.nil _ _, rfl, rfl, by simp, HI⟩
 case round =>
  obtain ⟨p, acc, hbw, hown, rfl, hg, hle, hinv⟩ := hrel
  have HG := Lib.hid hg
  have HLE := Lib.hid hle
  have hp0 : (0 : Int) ≤ (p : Int) := by omega
  have hpI : (p : Int) ≤ (s.size : Int) := by omega
  by_cases hp : (p : Int) < (s.size : Int)
  ·cases hd : decF (s.data.toList.drop p) with
   | none =>
    have HE := Lib.hid (runE_none (hinv.out.stop (by rw [str_len]; omega) hd))
    have HC := Lib.hid (one_none s p wr (by have := HS.out; omega) (by omega) hd)
    clear hd hg hle
    go_wp2_with (go_at_call 90; go_must (refine HC.out.mono ?_); rintro e w1 ⟨rfl, hb⟩)
    go_ret3
    rw [HE.out]
    exact RunIs.of (r := ([], p, 5)) (OwnR.nil _ _) (hbw.trans (hb.mono hbw.size))
   | some q =>
    obtain ⟨n, k⟩ := q
    obtain ⟨hn, hk1, hk4, hkl⟩ := dec_bounds hd
    have HK := Lib.hid (show 1 ≤ k ∧ k ≤ s.size - p from ⟨hk1, by simpa using hkl⟩)
    have HI2 := Lib.hid (hinv.out.step hd)
    obtain ⟨V, hV⟩ : ∃ V : Int, V = (n : Int) := ⟨_, rfl⟩
    obtain ⟨Z, hZ⟩ : ∃ Z : Int, Z = (k : Int) := ⟨_, rfl⟩
    have HV := Lib.hid hV
    have HZ := Lib.hid hZ
    have hzb : (Z == 0) = false := by simp; omega
    have hz0 : 0 ≤ Z := by omega
    have hz4 : Z ≤ (s.size : Int) - (p : Int) := by have := HK.out; omega
    have HC := Lib.hid (one_some s p n k V Z wr (by have := HS.out; omega) (by omega) hd hV hZ)
    clear hd hg hn hk1 hk4 hkl hV hZ hle
    go_wp2_with (first
     | (go_at_call 90; go_must (refine HC.out.mono ?_); rintro e w1 ⟨rfl, hb⟩; have hown1 := hown.below hb; have hb1 := hbw.trans (hb.mono hbw.size))
     | ((with_reducible refine atS 25 ?_); go_must (refine app_runs rfl (.tmp 22) (.tmp 24) rfl w.heap.size _ (zs acc) rfl (hown1.alloc _) _ 1 1 [V] rfl (runs_one _ _) (by rw [zs_length]; have := HLE.out; have := HS.out; omega) (by have := hb1.size; simp; omega) ?_); intro v3 w3 hown3 hgr3; have hb3 := (hb1.alloc hb1.size (.cells #[.int .i32 V] 21)).grown hgr3 (by have := hb1.size; simp; omega) (fun q hq => (World.ownsRow.lt hown1 q hq).1); clear hgr3 hown1))
    go_roundg (gk - k)
    case measure => have := HG.out; have := HK.out; omega
    case rel => exact ⟨p + k, acc ++ [n], hb3, by rw [zs_append, show zs [n] = [V] from by rw [HV.out]; rfl]; exact hown3, by rw [HZ.out]; rfl, by have := HG.out; have := HK.out; omega, by rw [List.length_append, List.length_singleton]; have := HLE.out; have := HK.out; omega, HI2⟩
  ·have HE := Lib.hid (runE_some (hinv.out.done (by rw [str_len]; omega)))
   clear hg hle
   go_wp2
   go_ret3
   rw [HE.out]
   exact RunIs.of (r := (acc, 0, 0)) hown hbw
end Go.Proofs.YthihmlojdopmfaaDoor

namespace Go.Proofs.YthihmlojdopmfaaDoor
open Go.RowKit

theorem refRunes_some (s : ByteArray) (L : List Nat) (e0 : Nat) (w : World) (hs : s.size ≤ 20000000000) (h : runesF s.data.toList = (some L, e0)) :
  Calls Tryd.prog 86 #[.string s] w fun e w' => ∃ a n c, e = .returned (.tuple #[.slice a n c, .int .i64 0, .int .i64 0]) ∧ Runs w' a n c (zs L) ∧ Below w.heap.size w w' :=
 (refRunes_any s w hs).mono fun e w' h1 => by
  obtain ⟨a, n, c, he, ho, hb⟩ := h1
  rw [runE_some h] at he ho
  obtain ⟨a', n', c', hv, hr⟩ := ho.runs
  simp only [Value.slice.injEq] at hv
  obtain ⟨rfl, rfl, rfl⟩ := hv
  exact ⟨a, n, c, he, hr, hb⟩
theorem refRunes_none (s : ByteArray) (p : Nat) (w : World) (hs : s.size ≤ 20000000000) (h : runesF s.data.toList = (none, p)) :
  Calls Tryd.prog 86 #[.string s] w fun e w' => ∃ a n c, e = .returned (.tuple #[.slice a n c, .int .i64 p, .int .i64 5]) ∧ Below w.heap.size w w' :=
 (refRunes_any s w hs).mono fun e w' h1 => by
  obtain ⟨a, n, c, he, ho, hb⟩ := h1
  rw [runE_none h] at he
  exact ⟨a, n, c, he, hb⟩

set_option maxRecDepth 100000 in
set_option maxHeartbeats 400000 in
theorem is_any (s : ByteArray) (w : World) (hs : s.size ≤ 20000000000) :
  Calls Tryd.prog 62 #[.string s] w fun e w' => e = .returned (.bool (textOk s.data.toList)) ∧ Below w.heap.size w w' := by
 rcases runesF_cases s.data.toList with ⟨L, hL⟩ | ⟨p, hL⟩
 ·have HC := Lib.hid (refRunes_some s L _ w hs hL)
  have HE := Lib.hid (textOk_some hL)
  clear hs hL
  go_enter Tryd.func62, Tryd.ntmps62
  go_wp2_with (go_at_call 86; (with_reducible refine HC.out.mono ?_); rintro e w1 ⟨a, n, c, rfl, hr, hb⟩)
  go_ret
  exact ⟨retBl HE.out.symm, hb⟩
 ·have HC := Lib.hid (refRunes_none s p w hs hL)
  have HE := Lib.hid (textOk_none hL)
  clear hs hL
  go_enter Tryd.func62, Tryd.ntmps62
  go_wp2_with (go_at_call 86; (with_reducible refine HC.out.mono ?_); rintro e w1 ⟨a, n, c, rfl, hb⟩)
  go_ret
  exact ⟨retBl HE.out.symm, hb⟩

end Go.Proofs.YthihmlojdopmfaaDoor

namespace Go.Proofs.YthihmlojdopmfaaDoor
open Go.RowKit

theorem Below.step {a b c : World} (h : Below a.heap.size a b) (k : Below b.heap.size b c) : Below a.heap.size a c := h.trans (k.mono h.size)
theorem text_is (s : ByteArray) (c : Bool) (w : World) (hs : s.size ≤ 140737488355328) (hT : Tabs w) (h : textOk s.data.toList = c) :
  Calls Tryd.prog 71 #[.string s] w fun e w' => e = .returned (.bool c) ∧ Below w.heap.size w w' := by subst h; exact text_any s w hs hT
theorem is_is (s : ByteArray) (c : Bool) (w : World) (hs : s.size ≤ 20000000000) (h : textOk s.data.toList = c) :
  Calls Tryd.prog 62 #[.string s] w fun e w' => e = .returned (.bool c) ∧ Below w.heap.size w w' := by subst h; exact is_any s w hs
set_option maxRecDepth 100000 in
set_option maxHeartbeats 1000000 in
theorem note_any (s : ByteArray) (w : World) (hs : s.size ≤ 140737488355328) (hT : Tabs w) :
  Calls Tryd.prog 51 #[.string s] w fun e w' => e = .returned (.bool (noteF s.data.toList)) ∧ Below w.heap.size w w' := by
 obtain ⟨r, hr⟩ : ∃ r, r = noteF s.data.toList := ⟨_, rfl⟩
 rw [← hr]
 unfold noteF at hr
 rw [b_len] at hr
 obtain ⟨c1, h1⟩ : ∃ c, (decide ((0 : Int) ≤ (s.size : Int)) && decide ((s.size : Int) ≤ 256)) = c := ⟨_, rfl⟩
 have H1 := Lib.hid (fun w => sized_is s 0 256 c1 w h1)
 obtain ⟨c2, h2⟩ : ∃ c, textOk s.data.toList = c := ⟨_, rfl⟩
 have H2 := Lib.hid (text_is s c2 w hs hT h2)
 have hd : decide (s.size ≤ 256) = c1 := by rw [← h1, Bool.eq_iff_iff]; simp; omega
 have HR := Lib.hid (show r = (c1 && c2) by rw [hr, hd, h2])
 clear hr hd h1 h2 hs hT
 rcases c1
 ·go_enter Tryd.func51, Tryd.ntmps51
  go_wp2_with (go_at_call 70; (with_reducible refine (H1.out _).mono ?_); rintro e w1 ⟨rfl, rfl⟩)
  go_ret
  exact ⟨retBl (by rw [HR.out]; rfl), Below.refl _ _⟩
 ·go_enter Tryd.func51, Tryd.ntmps51
  go_wp2_with (first
   | (go_at_call 70; (with_reducible refine (H1.out _).mono ?_); rintro e w1 ⟨rfl, rfl⟩)
   | (go_at_call 71; (with_reducible refine H2.out.mono ?_); rintro e w1 ⟨rfl, hb1⟩))
  go_ret
  exact ⟨retBl (by rw [HR.out]; rfl), hb1⟩

set_option maxRecDepth 100000 in
set_option maxHeartbeats 1000000 in
theorem refNote_any (s : ByteArray) (w : World) (hs : s.size ≤ 20000000000) :
  Calls Tryd.prog 38 #[.string s] w fun e w' => e = .returned (.bool (noteF s.data.toList)) ∧ Below w.heap.size w w' := by
 obtain ⟨r, hr⟩ : ∃ r, r = noteF s.data.toList := ⟨_, rfl⟩
 rw [← hr]
 unfold noteF at hr
 rw [b_len] at hr
 obtain ⟨c3, h3⟩ : ∃ c, textOk s.data.toList = c := ⟨_, rfl⟩
 have H3 := Lib.hid (is_is s c3 w hs h3)
 rw [h3] at hr
 have HR := Lib.hid hr
 clear hr h3 hs
 by_cases h2 : (s.size : Int) ≤ 256
 ·have HX := Lib.hid (show r = c3 by rw [HR.out, decide_eq_true (p := s.size ≤ 256) (by omega)]; rfl)
  go_enter Tryd.func38, Tryd.ntmps38
  go_wp2_with (go_at_call 62; (with_reducible refine H3.out.mono ?_); rintro e w1 ⟨rfl, hb1⟩)
  go_ret
  exact ⟨retBl HX.out.symm, hb1⟩
 ·have HX := Lib.hid (show r = false by rw [HR.out, decide_eq_false (p := s.size ≤ 256) (by omega)]; simp)
  go_enter Tryd.func38, Tryd.ntmps38
  go_wp2
  go_ret
  exact ⟨retBl HX.out.symm, Below.refl _ _⟩
end Go.Proofs.YthihmlojdopmfaaDoor

namespace Go.Proofs.YthihmlojdopmfaaDoor
open Go.RowKit

def entF (e : EntV) : Bool := decide (1 ≤ e.upd.kind) && decide (e.upd.kind ≤ 3) && decide (e.upd.name.length ≤ 32) && noteF e.note
def LogOk (L : List EntV) : Prop := L.length ≤ 64 ∧ ∀ e ∈ L, entF e = true
theorem size67 {X : EntV} (h : UpOk X.upd) : (Tryd.prog.info? EEf).map (·.size) = some (enL X).length := by rw [enL_len h]; kernel_rfl
theorem exec_loadEn {w : World} {o : Oper} {a : Act} (x : Operand) (ho : o.op = .load EEf x) (b off : Nat) (X : EntV) (hX : UpOk X.upd) (hx : a.eval x = .pointer (some ⟨b, off, none⟩)) (hc : w.rangeAt b off (enL X)) :
  (execOp a.eval o).run Tryd.prog w = .ok (.value (.agg (enL X).toArray)) w := by
 have hr := run_loadVar_mid (P := Tryd.prog) w b off EEf (enL X) _ hc Tryd.underlying50 rfl (size67 hX)
 unfold execOp
 simp only [ho, hx, Instr.loadAt, Instr.sureAddr, Sem.run_bind, Sem.run_pure, Result.andThen_ok, hr]
theorem note_is (n : List UInt8) (q : Bool) (hq : noteF n = q) (hl : n.length ≤ 100000) (w : World) (hT : Tabs w) : Calls Tryd.prog 51 #[.string (strB n)] w fun e w' => e = .returned (.bool q) ∧ Below w.heap.size w w' := by
 have h := note_any (strB n) w (by rw [strB_size]; omega) hT
 rw [strB_list, hq] at h
 exact h
theorem en_note {w : World} {g : Nat} {E : TypeId} {X : EntV} (hX : UpOk X.upd) (h : RowAt w g E (enL X)) : w.cell? ⟨g, 66, none⟩ = some (.string (strB X.note)) := by
 refine h.cell 66 ?_
 unfold enL
 rw [List.getElem?_append_right (by rw [upL_len hX]; omega), upL_len hX]
 rfl
theorem ent_bad {L : List EntV} {X : EntV} {q : Bool} (hF : ¬ LogOk L → q = false) (hm : X ∈ L) (h : ¬ entF X = true) : q = false := hF (fun h2 => h (h2.2 X hm))

set_option maxRecDepth 100000 in
set_option maxHeartbeats 2000000 in
theorem log_any (a : Option Addr) (n c : Nat) (L : List EntV) (w : World) (h : AtG enK w a n c L) (hs : ∀ e ∈ L, e.upd.name.length ≤ 100000 ∧ e.note.length ≤ 100000) (hT : Tabs w) (q : Bool) (hq : q = true ↔ LogOk L) :
  Calls Tryd.prog 28 #[.slice a n c] w fun e w' => e = .returned (.bool q) ∧ Below w.heap.size w w' := by
 have HLN := Lib.hid h.1
 have HN := Lib.hid h
 have HQ := Lib.hid hq
 have HT := Lib.hid hT
 have HS := Lib.hid hs
 have HF := Lib.hid (show ¬ LogOk L → q = false from fun h => by
  cases q
  ·rfl
  ·exact absurd (HQ.out.1 rfl) h)
 have hnM : (n : Int) ≤ 9223372036854775807 := by have := h.2.1; have := h.2.2.1; omega
 clear hq hs hT
 by_cases h64 : (64 : Int) < (n : Int)
 ·have d64 : decide (64 < n) = true := decide_eq_true (by omega)
  have HQ2 := Lib.hid (HF.out (fun h2 => by have := h2.1; have := HLN.out; omega))
  clear h
  go_enter Tryd.func28, Tryd.ntmps28
  go_wp2
  go_ret
  exact ⟨boolR HQ2.out.symm, Below.refl _ _⟩
 have hnI : (n : Int) ≤ 64 := by omega
 have HNI := Lib.hid hnI
 have d64 : decide (64 < n) = false := decide_eq_false (by omega)
 clear h h64
 go_enter Tryd.func28, Tryd.ntmps28
 go_wp2
 go_loopg [10] n (fun g v10 W => ∃ i : Nat, v10 = .int .i64 i ∧ g + i = n ∧ Hid (Below w.heap.size w W) ∧ Hid (∀ j, j < i → entF (gd L j) = true))
 case atStart => exact ⟨0, rfl, rfl, Lib.hid (Below.refl _ _), Lib.hid (fun j hj => absurd hj (Nat.not_lt_zero _))⟩
 case round =>
  obtain ⟨i, rfl, hg, HB, HOK⟩ := hrel
  have HG := Lib.hid hg
  have hi0 : (0 : Int) ≤ (i : Int) := by omega
  have hiI : (i : Int) ≤ (n : Int) := by omega
  by_cases hi : (i : Int) < (n : Int)
  ·have hin : i < n := by omega
   have HI := Lib.hid hin
   obtain ⟨b, o, rfl⟩ := HN.out.some_ (by omega)
   obtain ⟨X, hX⟩ : ∃ X, X = gd L i := ⟨_, rfl⟩
   have HXO : Hid (UpOk X.upd) := Lib.hid (hX ▸ HN.out.ok hin)
   have HXE := Lib.hid hX
   have HXM : Hid (X ∈ L) := Lib.hid (by rw [hX]; exact gd_mem (by rw [HLN.out]; exact hin))
   have HXR : Hid (wr.rangeAt b (o + i * 67) (enL X)) := Lib.hid (hX ▸ (HN.out.below HB.out).at_ i hin)
   obtain ⟨ki, hki⟩ : ∃ ki : Int, (X.upd.kind : Int) = ki := ⟨_, rfl⟩
   have HKI := Lib.hid hki
   obtain ⟨p, hp⟩ : ∃ p, strB X.upd.name = p := ⟨_, rfl⟩
   have hps : p.size = X.upd.name.length := by rw [← hp, strB_size]
   have hpM : (p.size : Int) ≤ 100000 := by rw [hps]; have := (HS.out X HXM.out).1; omega
   have HPS := Lib.hid hps
   obtain ⟨t, ht⟩ : ∃ t, strB X.note = t := ⟨_, rfl⟩
   obtain ⟨m, hm⟩ : ∃ m, noteF X.note = m := ⟨_, rfl⟩
   have HNM := Lib.hid (fun W hT => ht ▸ note_is X.note m hm (HS.out X HXM.out).2 W hT)
   have HME := Lib.hid hm
   have HC0 := Lib.hid (fun W g (hh : RowAt W g EEf (enL X)) => (hki ▸ hh.cell 0 rfl : W.cell? ⟨g, 0, none⟩ = some (.int .u8 ki)))
   have HC1 := Lib.hid (fun W g (hh : RowAt W g EEf (enL X)) => (hp ▸ hh.cell 1 rfl : W.cell? ⟨g, 1, none⟩ = some (.string p)))
   have HC66 := Lib.hid (fun W g (hh : RowAt W g EEf (enL X)) => (ht ▸ en_note HXO.out hh : W.cell? ⟨g, 66, none⟩ = some (.string t)))
   clear hg hX hki hp hps ht hm
   by_cases k1 : ki < 1
   ·have HZ := Lib.hid (ent_bad HF.out HXM.out (fun h => by unfold entF at h; simp only [Bool.and_eq_true, decide_eq_true_eq] at h; have := HKI.out; omega))
    go_wp2_with (first
     | ((with_reducible refine atS 13 ?_); go_must (refine wl_ex rfl (exec_loadEn _ rfl _ _ X HXO.out rfl HXR.out) ?_))
     | ((with_reducible refine atT 4 ?_); go_must (refine store_new (vs := enL X) (size67 HXO.out) (enL_one X) (by rw [enL_len HXO.out]; rfl) rfl _ _ rfl rfl rfl ?_); intro W4 hk4 hb4 hs4; have HBW := thn HB hb4; have c0 := HC0.out _ _ hk4; have c1 := HC1.out _ _ hk4; have c66 := HC66.out _ _ hk4; generalize wr.heap.size = g4 at hk4 hs4 c0 c1 c66 ⊢; clear hk4 hb4 hs4))
    go_ret
    exact ⟨boolR HZ.out.symm, HBW.out⟩
   by_cases k2 : 3 < ki
   ·have k1n : decide (ki < 1) = false := decide_eq_false k1
    have HZ := Lib.hid (ent_bad HF.out HXM.out (fun h => by unfold entF at h; simp only [Bool.and_eq_true, decide_eq_true_eq] at h; have := HKI.out; omega))
    go_wp2_with (first
     | ((with_reducible refine atS 13 ?_); go_must (refine wl_ex rfl (exec_loadEn _ rfl _ _ X HXO.out rfl HXR.out) ?_))
     | ((with_reducible refine atT 4 ?_); go_must (refine store_new (vs := enL X) (size67 HXO.out) (enL_one X) (by rw [enL_len HXO.out]; rfl) rfl _ _ rfl rfl rfl ?_); intro W4 hk4 hb4 hs4; have HBW := thn HB hb4; have c0 := HC0.out _ _ hk4; have c1 := HC1.out _ _ hk4; have c66 := HC66.out _ _ hk4; generalize wr.heap.size = g4 at hk4 hs4 c0 c1 c66 ⊢; clear hk4 hb4 hs4))
    go_ret
    exact ⟨boolR HZ.out.symm, HBW.out⟩
   by_cases k3 : 32 < (p.size : Int)
   ·have k3n : decide (32 < p.size) = true := decide_eq_true (by omega)
    have k1n : decide (ki < 1) = false := decide_eq_false k1
    have k2n : decide (3 < ki) = false := decide_eq_false k2
    have HZ := Lib.hid (ent_bad HF.out HXM.out (fun h => by unfold entF at h; simp only [Bool.and_eq_true, decide_eq_true_eq] at h; have := HPS.out; omega))
    go_wp2_with (first
     | ((with_reducible refine atS 13 ?_); go_must (refine wl_ex rfl (exec_loadEn _ rfl _ _ X HXO.out rfl HXR.out) ?_))
     | ((with_reducible refine atT 4 ?_); go_must (refine store_new (vs := enL X) (size67 HXO.out) (enL_one X) (by rw [enL_len HXO.out]; rfl) rfl _ _ rfl rfl rfl ?_); intro W4 hk4 hb4 hs4; have HBW := thn HB hb4; have c0 := HC0.out _ _ hk4; have c1 := HC1.out _ _ hk4; have c66 := HC66.out _ _ hk4; generalize wr.heap.size = g4 at hk4 hs4 c0 c1 c66 ⊢; clear hk4 hb4 hs4))
    go_ret
    exact ⟨boolR HZ.out.symm, HBW.out⟩
   have k1n : decide (ki < 1) = false := decide_eq_false k1
   have k2n : decide (3 < ki) = false := decide_eq_false k2
   have k3n : decide (32 < p.size) = false := decide_eq_false (by omega)
   cases m
   ·have HZ := Lib.hid (ent_bad HF.out HXM.out (fun h => by unfold entF at h; simp only [Bool.and_eq_true, decide_eq_true_eq] at h; have := h.2; rw [HME.out] at this; cases this))
    go_wp2_with (first
     | ((with_reducible refine atS 13 ?_); go_must (refine wl_ex rfl (exec_loadEn _ rfl _ _ X HXO.out rfl HXR.out) ?_))
     | ((with_reducible refine atT 4 ?_); go_must (refine store_new (vs := enL X) (size67 HXO.out) (enL_one X) (by rw [enL_len HXO.out]; rfl) rfl _ _ rfl rfl rfl ?_); intro W4 hk4 hb4 hs4; have HBW := thn HB hb4; have c0 := HC0.out _ _ hk4; have c1 := HC1.out _ _ hk4; have c66 := HC66.out _ _ hk4; generalize wr.heap.size = g4 at hk4 hs4 c0 c1 c66 ⊢; clear hk4 hb4 hs4)
     | (go_at_call 51; go_must (refine (HNM.out _ (HT.out.below HBW.out)).mono ?_); rintro e w6 ⟨rfl, hb6⟩; have HX1 := thn HBW hb6; clear hb6))
    go_ret
    exact ⟨boolR HZ.out.symm, HX1.out⟩
   ·have HK := Lib.hid (show entF X = true by
     unfold entF
     rw [HME.out, decide_eq_true (show 1 ≤ X.upd.kind by have := HKI.out; omega), decide_eq_true (show X.upd.kind ≤ 3 by have := HKI.out; omega), decide_eq_true (show X.upd.name.length ≤ 32 by have := HPS.out; omega)]
     rfl)
    clear k1 k2
    go_wp2_with (first
     | ((with_reducible refine atS 13 ?_); go_must (refine wl_ex rfl (exec_loadEn _ rfl _ _ X HXO.out rfl HXR.out) ?_))
     | ((with_reducible refine atT 4 ?_); go_must (refine store_new (vs := enL X) (size67 HXO.out) (enL_one X) (by rw [enL_len HXO.out]; rfl) rfl _ _ rfl rfl rfl ?_); intro W4 hk4 hb4 hs4; have HBW := thn HB hb4; have c0 := HC0.out _ _ hk4; have c1 := HC1.out _ _ hk4; have c66 := HC66.out _ _ hk4; generalize wr.heap.size = g4 at hk4 hs4 c0 c1 c66 ⊢; clear hk4 hb4 hs4)
     | (go_at_call 51; go_must (refine (HNM.out _ (HT.out.below HBW.out)).mono ?_); rintro e w6 ⟨rfl, hb6⟩; have HX1 := thn HBW hb6; clear hb6))
    go_roundg (n - (i + 1))
    case measure => have := HG.out; have := HI.out; omega
    case rel => exact ⟨i + 1, by go_num, by have := HI.out; omega, HX1, Lib.hid (fun j hj => by
     rcases Nat.lt_or_ge j i with h1 | h1
     ·exact HOK.out j h1
     ·obtain rfl : j = i := by omega
      rw [← HXE.out]; exact HK.out)⟩
  ·have hin : n = i := by omega
   have HZ : Hid (q = true) := Lib.hid (HQ.out.2 ⟨by have := HLN.out; have := HNI.out; omega, fun e he => by
    obtain ⟨j, hj, rfl⟩ := List.mem_iff_getElem.1 he
    have := HOK.out j (by have := HLN.out; omega)
    have e2 : gd L j = L[j] := by unfold gd; simp [hj]
    rwa [e2] at this⟩)
   clear hg
   go_wp2
   go_ret
   exact ⟨boolR HZ.out.symm, HB.out⟩
def RightV (r : RefsV) : Prop := RightN r.br ∧ RightN r.tg ∧ headF r.head r.at_ = true ∧ LogOk r.log
def RfLen (r : RefsV) : Prop := ∀ e ∈ r.log, e.upd.name.length ≤ 100000 ∧ e.note.length ≤ 100000
theorem size36 {S : RfS} {h a : List UInt8} (ha : a.length = 32) : (Tryd.prog.info? REf).map (·.size) = some (rfL S h a).length := by rw [rfL_len ha]; kernel_rfl
theorem exec_loadRf {w : World} {o : Oper} {a : Act} (x : Operand) (ho : o.op = .load REf x) (b : Nat) (S : RfS) (h m : List UInt8) (hm : m.length = 32) (hx : a.eval x = .pointer (some ⟨b, 0, none⟩)) (hc : RowAt w b REf (rfL S h m)) :
  (execOp a.eval o).run Tryd.prog w = .ok (.value (.agg (rfC S h m))) w := by
 have hr := run_loadVar_mid (P := Tryd.prog) w b 0 REf (rfL S h m) _ (fun i v hv => by rw [Nat.zero_add]; exact RowAt.cell hc i hv) Tryd.underlying35 rfl (size36 hm)
 unfold execOp
 simp only [ho, hx, Instr.loadAt, Instr.sureAddr, Sem.run_bind, Sem.run_pure, Result.andThen_ok, hr]
 rfl
section
variable {w : World} {g : Nat} {S : RfS} {h a : List UInt8} {E : TypeId}
theorem rf_br (H : RowAt w g E (rfL S h a)) : w.cell? ⟨g, 0, none⟩ = some (.slice S.ab S.nb S.cb) := H.cell 0 rfl
theorem rf_tg (H : RowAt w g E (rfL S h a)) : w.cell? ⟨g, 1, none⟩ = some (.slice S.ag S.ng S.cg) := H.cell 1 rfl
theorem rf_hd (H : RowAt w g E (rfL S h a)) : w.cell? ⟨g, 2, none⟩ = some (.string (strB h)) := H.cell 2 rfl
theorem rf_at (H : RowAt w g E (rfL S h a)) : w.rangeAt g 3 (a.map B) :=
 H.range (l := [.slice S.ab S.nb S.cb, .slice S.ag S.ng S.cg, .string (strB h)]) (m := a.map B) (r := [.slice S.al S.nl S.cl]) rfl
theorem rf_log (ha : a.length = 32) (H : RowAt w g E (rfL S h a)) : w.cell? ⟨g, 35, none⟩ = some (.slice S.al S.nl S.cl) := by
 refine H.cell 35 ?_
 unfold rfL
 rw [List.getElem?_append_right (by simp), List.getElem?_append_right (by simp [ha])]
 simp [ha]
end
theorem right_some (r : RefsV) : ∃ q1 q2 q3 q4 : Bool, (q1 = true ↔ RightN r.br) ∧ (q2 = true ↔ RightN r.tg) ∧ headF r.head r.at_ = q3 ∧ (q4 = true ↔ LogOk r.log) :=
 ⟨by classical exact decide (RightN r.br), by classical exact decide (RightN r.tg), _, by classical exact decide (LogOk r.log), by classical exact decide_eq_true_iff, by classical exact decide_eq_true_iff, rfl, by classical exact decide_eq_true_iff⟩

set_option maxRecDepth 100000 in
set_option maxHeartbeats 1000000 in
theorem right_any (S : RfS) (r : RefsV) (w : World) (h : RfIn w S r) (hs : RfLen r) (hT : Tabs w) (q : Bool) (hq : q = true ↔ RightV r) :
  Calls Tryd.prog 13 #[.agg (rfC S r.head r.at_)] w fun e w' => e = .returned (.bool q) ∧ Below w.heap.size w w' := by
 obtain ⟨q1, q2, q3, q4, h1, h2, h3, h4⟩ := right_some r
 have HA := Lib.hid h.at_
 have HR := Lib.hid (show RowAt (w.alloc (.cells (rfC S r.head r.at_) REf)) w.heap.size REf (rfL S r.head r.at_) from heap_alloc_new w _)
 have HB := Lib.hid ((Below.refl w.heap.size w).alloc (Nat.le_refl _) (.cells (rfC S r.head r.at_) REf))
 have N1 := Lib.hid (fun W (hW : Below w.heap.size w W) => names_any S.ab S.nb S.cb r.br W (h.br.below hW) q1 h1)
 have N2 := Lib.hid (fun W (hW : Below w.heap.size w W) => names_any S.ag S.ng S.cg r.tg W (h.tg.below hW) q2 h2)
 have N3 := Lib.hid (fun W => head_any r.head r.at_ h.at_ q3 h3 W)
 have N4 := Lib.hid (fun W (hW : Below w.heap.size w W) => log_any S.al S.nl S.cl r.log W (h.log.below hW) hs (hT.below hW) q4 h4)
 have HQ := Lib.hid (show q = (q1 && q2 && q3 && q4) by
  rw [Bool.eq_iff_iff]
  simp only [Bool.and_eq_true]
  rw [hq, h1, h2, h4]
  unfold RightV
  rw [h3]
  constructor
  ·rintro ⟨a, b, c, d⟩; exact ⟨⟨⟨a, b⟩, c⟩, d⟩
  ·rintro ⟨⟨⟨a, b⟩, c⟩, d⟩; exact ⟨a, b, c, d⟩)
 obtain ⟨p, hp⟩ : ∃ p, strB r.head = p := ⟨_, rfl⟩
 have HC0 := Lib.hid (fun W (hh : RowAt W w.heap.size REf (rfL S r.head r.at_)) => rf_br hh)
 have HC1 := Lib.hid (fun W (hh : RowAt W w.heap.size REf (rfL S r.head r.at_)) => rf_tg hh)
 have HC2 := Lib.hid (fun W (hh : RowAt W w.heap.size REf (rfL S r.head r.at_)) => (hp ▸ rf_hd hh : W.cell? ⟨w.heap.size, 2, none⟩ = some (.string p)))
 have HC35 := Lib.hid (fun W (hh : RowAt W w.heap.size REf (rfL S r.head r.at_)) => rf_log HA.out hh)
 rw [hp] at N3
 have c0 := HC0.out _ HR.out
 clear h hs hT hq h1 h2 h3 h4 hp
 cases q1
 ·go_enter Tryd.func13, Tryd.ntmps13
  go_wp2_with (go_at_call 26; go_must (refine (N1.out _ HB.out).mono ?_); rintro e w2 ⟨rfl, hb2⟩)
  go_ret
  exact ⟨boolR (by rw [HQ.out]; rfl), HB.out.trans (hb2.mono HB.out.size)⟩
 cases q2
 ·go_enter Tryd.func13, Tryd.ntmps13
  go_wp2_with (first
   | (go_at_call 26; (with_reducible refine (N1.out _ HB.out).mono ?_); rintro e w2 ⟨rfl, hb2⟩; have HB2 := thn HB hb2; have HR2 := Lib.hid (HR.out.below hb2); have c1 := HC1.out _ HR2.out; clear hb2)
   | (go_at_call 26; (with_reducible refine (N2.out _ HB2.out).mono ?_); rintro e w3 ⟨rfl, hb3⟩))
  go_ret
  exact ⟨boolR (by rw [HQ.out]; rfl), HB2.out.trans (hb3.mono HB2.out.size)⟩
 cases q3
 ·go_enter Tryd.func13, Tryd.ntmps13
  go_wp2_with (first
   | (go_at_call 26; (with_reducible refine (N1.out _ HB.out).mono ?_); rintro e w2 ⟨rfl, hb2⟩; have HB2 := thn HB hb2; have HR2 := Lib.hid (HR.out.below hb2); have c1 := HC1.out _ HR2.out; clear hb2)
   | (go_at_call 26; (with_reducible refine (N2.out _ HB2.out).mono ?_); rintro e w3 ⟨rfl, hb3⟩; have HB3 := thn HB2 hb3; have HR3 := Lib.hid (HR2.out.below hb3); have c2 := HC2.out _ HR3.out; clear hb3)
   | ((with_reducible refine atS 15 ?_); go_must (refine wl_load rfl _ rfl _ _ r.at_ HA.out rfl (rf_at HR3.out) ?_))
   | (go_at_call 27; go_must (refine (N3.out _).mono ?_); rintro e w4 ⟨rfl, hb4⟩))
  go_ret
  exact ⟨boolR (by rw [HQ.out]; rfl), HB3.out.trans (hb4.mono HB3.out.size)⟩
 ·go_enter Tryd.func13, Tryd.ntmps13
  go_wp2_with (first
   | (go_at_call 26; (with_reducible refine (N1.out _ HB.out).mono ?_); rintro e w2 ⟨rfl, hb2⟩; have HB2 := thn HB hb2; have HR2 := Lib.hid (HR.out.below hb2); have c1 := HC1.out _ HR2.out; clear hb2)
   | (go_at_call 26; (with_reducible refine (N2.out _ HB2.out).mono ?_); rintro e w3 ⟨rfl, hb3⟩; have HB3 := thn HB2 hb3; have HR3 := Lib.hid (HR2.out.below hb3); have c2 := HC2.out _ HR3.out; clear hb3)
   | ((with_reducible refine atS 15 ?_); go_must (refine wl_load rfl _ rfl _ _ r.at_ HA.out rfl (rf_at HR3.out) ?_))
   | (go_at_call 27; go_must (refine (N3.out _).mono ?_); rintro e w4 ⟨rfl, hb4⟩; have HB4 := thn HB3 hb4; have HR4 := Lib.hid (HR3.out.below hb4); have c35 := HC35.out _ HR4.out; clear hb4)
   | (go_at_call 28; go_must (refine (N4.out _ HB4.out).mono ?_); rintro e w5 ⟨rfl, hb5⟩))
  go_ret
  exact ⟨boolR (by rw [HQ.out]; rfl), HB4.out.trans (hb5.mono HB4.out.size)⟩
end Go.Proofs.YthihmlojdopmfaaDoor
