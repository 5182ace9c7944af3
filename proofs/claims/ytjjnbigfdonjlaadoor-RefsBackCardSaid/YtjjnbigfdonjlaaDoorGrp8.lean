/-
  Merged: Runes, UtfRunes0, UtfRefRunes, RunesOk, Author.
-/
import Derived.Test.YtjjnbigfdonjlaaDoorBytes
import Derived.Test.YtjjnbigfdonjlaaDoorGrp6
import Derived.Test.YtjjnbigfdonjlaaDoorUtfOne
import Derived.Test.YtjjnbigfdonjlaaDoorPathMath
namespace Go.Proofs.YtjjnbigfdonjlaaDoor
open Go.RowKit

/-- A rune as the model has it. -/
def R (b : Int) : Value := .int .i32 b

/-- A slice value reads as these runes. -/
def Runs (w : World) (a : Option Addr) (n c : Nat) (l : List Int) : Prop :=
  l.length = n ∧ n ≤ c ∧ c ≤ 9223372036854775807 ∧ ((n = 0 ∧ c = 0) ∨ ∃ b off, a = some ⟨b, off, none⟩ ∧ ∀ j, j < n → w.cell? ⟨b, off + j, none⟩ = some (.int .i32 (l.getD j 0)))

/-- A value that owns these runes, in memory from a block on. -/
def OwnR (w : World) (base : Nat) (v : Value) (l : List Int) : Prop := w.ownsRow base 21 1 v l.length (l.map R)

/-- What is made anew: a value that owns these runes; what was there stands. -/
def MadeR (w : World) (l : List Int) (e : Ending) (w' : World) : Prop := ∃ a n c, e = .returned (.slice a n c) ∧ OwnR w' w.heap.size (.slice a n c) l ∧ Below w.heap.size w w'

theorem Tryd.infoR21 : (Tryd.prog.info? 21).map (fun i => (i.zero, i.size, i.bytes)) = some (some (.int .i32 0), 1, 4) := by kernel_rfl

theorem Runs.nil (w : World) : Runs w none 0 0 [] := ⟨rfl, Nat.le_refl _, by omega, .inl ⟨rfl, rfl⟩⟩

theorem Runs.below {w w' : World} {a : Option Addr} {n c : Nat} {l : List Int} (h : Runs w a n c l) (hb : Below w.heap.size w w') : Runs w' a n c l := by
  obtain ⟨h1, h2, h3, h4⟩ := h
  refine ⟨h1, h2, h3, ?_⟩
  rcases h4 with h4 | ⟨b, off, ha, hc⟩
  · exact .inl h4
  · exact .inr ⟨b, off, ha, fun j hj => (hb.cell (World.block_lt_of_cell? _ _ (hc j hj))).trans (hc j hj)⟩

theorem OwnR.nil (w : World) (base : Nat) : OwnR w base (.slice none 0 0) [] := World.ownsRow_nil _ _ _ _

theorem OwnR.runs {w : World} {base : Nat} {v : Value} {l : List Int} (h : OwnR w base v l) : ∃ a n c, v = .slice a n c ∧ Runs w a n c l := by
  have h0 := h
  obtain ⟨h1, h2⟩ := h
  rcases h2 with ⟨rfl, hn⟩ | ⟨g, cap, cur, rfl, hb, hg, hn, hm, hs, ht⟩
  · have : l = [] := List.length_eq_zero_iff.1 hn
    subst this
    exact ⟨none, 0, 0, rfl, Runs.nil w⟩
  · refine ⟨_, _, _, rfl, rfl, hn, by unfold maxLen at hm; omega, .inr ⟨g, 0, rfl, fun j hj => ?_⟩⟩
    have := h0.cells (g := g) rfl j (R (l.getD j 0)) (by rw [List.getElem?_map]; simp [hj])
    rw [Addr.add_lit] at this
    simpa [R] using this

theorem MadeR.of {w w' : World} {l : List Int} {v : Value} (h : OwnR w' w.heap.size v l) (hb : Below w.heap.size w w') : MadeR w l (.returned v) w' := by
  obtain ⟨a, n, c, rfl, _⟩ := h.runs
  exact ⟨a, n, c, rfl, h, hb⟩

theorem OwnR.isRuns {w : World} {base : Nat} {a : Option Addr} {n c : Nat} {l : List Int} (h : OwnR w base (.slice a n c) l) : Runs w a n c l := by
  obtain ⟨a', n', c', hv, hb⟩ := h.runs
  simp only [Value.slice.injEq] at hv
  obtain ⟨rfl, rfl, rfl⟩ := hv
  exact hb

theorem OwnR.len {w : World} {base : Nat} {a : Option Addr} {n c : Nat} {l : List Int} (h : OwnR w base (.slice a n c) l) : n = l.length := by
  obtain ⟨a', n', c', hv, hb, _⟩ := h.runs
  simp only [Value.slice.injEq] at hv
  omega

theorem OwnR.below {w w' : World} {base : Nat} {v : Value} {l : List Int} (h : OwnR w base v l) (hb : Below w.heap.size w w') : OwnR w' base v l := by
  obtain ⟨h1, h2⟩ := h
  refine ⟨h1, ?_⟩
  rcases h2 with h2 | ⟨g, cap, cur, hv, hg, hh, r⟩
  · exact .inl h2
  · refine .inr ⟨g, cap, cur, hv, hg, ?_, r⟩
    have hlt : g < w.heap.size := by
      rcases Nat.lt_or_ge g w.heap.size with h | h
      · exact h
      · rw [Array.getElem?_eq_none h] at hh; cases hh
    rw [hb.block g hlt]; exact hh

theorem OwnR.mono {w : World} {base base' : Nat} {v : Value} {l : List Int} (h : OwnR w base v l) (hb : base' ≤ base) : OwnR w base' v l := by
  obtain ⟨h1, h2⟩ := h
  refine ⟨h1, ?_⟩
  rcases h2 with h2 | ⟨g, cap, cur, hv, hg, r⟩
  · exact .inl h2
  · exact .inr ⟨g, cap, cur, hv, by omega, r⟩

theorem OwnR.grown {w : World} {base : Nat} {v : Value} {l : List Int} (h : OwnR w base v l) : ∀ k, v.ownBlock = some k → base ≤ k := fun k hk => (World.ownsRow.lt h k hk).1

/-- 'append(dst, src...)': dst is the call's own, src any slice of runes that can be read. -/
theorem app_runs {w : World} {ops : Array Oper} {rest : List Oper} {o : Oper} {a : Act} {Q : Exit → Act → World → Prop} (hgd : o.guard = none) (s x : Operand)
    (ho : o.op = .call { callee := .builtin .append, args := #[s, x], argTypes := #[136, 136] })
    (base : Nat) (v : Value) (l : List Int) (hs : a.eval s = v) (hown : OwnR w base v l)
    (sa : Option Addr) (m c : Nat) (src : List Int) (hx : a.eval x = .slice sa m c) (hsrc : Runs w sa m c src)
    (h48 : l.length + m ≤ 35184372088832) (hbase : base ≤ w.heap.size)
    (h : ∀ v' w', OwnR w' base v' (l ++ src) → w.grownBy w' v.ownBlock → wpList Tryd.prog ops Q rest (a.put o.dst v') w') : wpList Tryd.prog ops Q (o :: rest) a w := by
  obtain ⟨i0, hi, hz0, hz1, hz2⟩ := info_parts Tryd.infoR21
  obtain ⟨h1, h2, h3, h4⟩ := hsrc
  rcases h4 with ⟨rfl, rfl⟩ | ⟨b, off, rfl, hc⟩
  · have : src = [] := List.length_eq_zero_iff.1 h1
    subst this
    cases sa with
    | none =>
      refine wpList_append_own_none hgd s x 136 ho base 21 i0 1 Tryd.underlying136 hi v l.length (l.map R) hs hown hx ?_
      exact h v w (by rw [List.append_nil]; exact hown) ⟨rfl, rfl, rfl, Nat.le_refl _, fun _ _ _ => rfl⟩
    | some ad =>
      refine wpList_append_own w hgd s x 136 ho base 21 i0 (.int .i32 0) 1 4 Tryd.underlying136 hi hz0 hz1 hz2 rfl (by decide) v l.length (l.map R) hs hown
        ad 0 0 [] hx (by simp) (by simp) (by simp) (by unfold maxLen; omega) (by omega) hbase ?_
      intro v' w' h5 h6 _
      exact h v' w' (by rw [List.append_nil]; simpa [OwnR] using h5) h6
  · refine wpList_append_own w hgd s x 136 ho base 21 i0 (.int .i32 0) 1 4 Tryd.underlying136 hi hz0 hz1 hz2 rfl (by decide) v l.length (l.map R) hs hown
      ⟨b, off, none⟩ m c (src.map R) hx (by simp [h1]) ?_ ?_ (by unfold maxLen; omega) (by omega) hbase ?_
    · intro j u hu
      rw [List.getElem?_map] at hu
      have hj : j < src.length := by
        rcases Nat.lt_or_ge j src.length with h | h
        · exact h
        · rw [List.getElem?_eq_none h] at hu; cases hu
      have := hc j (by omega)
      simp only [List.getElem?_eq_getElem hj, Option.map_some, Option.some.injEq] at hu
      subst hu
      rw [Addr.add_lit]
      simpa [R, hj] using this
    · intro u hu
      obtain ⟨x, _, rfl⟩ := List.mem_map.1 hu
      rfl
    · intro v' w' h5 h6 _
      refine h v' w' ?_ h6
      unfold OwnR
      rw [List.length_append, List.map_append, h1]
      exact h5

/-- One byte in a block of its own, ahead of its append. -/
theorem runs_one (w : World) (x : Int) : Runs (w.alloc (.cells #[.int .i32 x] 21)) (some ⟨w.heap.size, 0, none⟩) 1 1 [x] := by
  refine ⟨rfl, Nat.le_refl _, by omega, .inr ⟨_, _, rfl, fun j hj => ?_⟩⟩
  obtain rfl : j = 0 := by omega
  simp

theorem OwnR.alloc {w : World} {base : Nat} {v : Value} {l : List Int} (h : OwnR w base v l) (o : Obj) : OwnR (w.alloc o) base v l := World.ownsRow.alloc h o

#print axioms app_runs
end Go.Proofs.YtjjnbigfdonjlaaDoor

namespace Go.Proofs.YtjjnbigfdonjlaaDoor
open Go.RowKit

/-- Runes as numbers. -/
def zs (l : List Nat) : List Int := l.map fun n : Nat => (n : Int)
theorem zs_length (l : List Nat) : (zs l).length = l.length := by simp [zs]
theorem zs_append (l m : List Nat) : zs (l ++ m) = zs l ++ zs m := by simp [zs]
theorem zs_inj {l m : List Nat} (h : zs l = zs m) : l = m := by
  unfold zs at h
  exact (List.map_inj_right (fun x y hxy => by omega)).1 h

/-- What Runes answers. -/
def runE (l : List UInt8) : List Nat × Nat × Nat := match runesF l with | (some L, _) => (L, 0, 0) | (none, p) => ([], p, 5)
theorem runE_some {l : List UInt8} {L : List Nat} {e : Nat} (h : runesF l = (some L, e)) : runE l = (L, 0, 0) := by unfold runE; rw [h]
theorem runE_none {l : List UInt8} {p : Nat} (h : runesF l = (none, p)) : runE l = ([], p, 5) := by unfold runE; rw [h]

def RunIs (r : List Nat × Nat × Nat) (w : World) (e : Ending) (w' : World) : Prop :=
  ∃ a n c, e = .returned (.tuple #[.slice a n c, .int .i64 r.2.1, .int .i64 r.2.2]) ∧ OwnR w' w.heap.size (.slice a n c) (zs r.1) ∧ Below w.heap.size w w'

theorem RunIs.of {r : List Nat × Nat × Nat} {w w' : World} {v : Value} (h : OwnR w' w.heap.size v (zs r.1)) (hb : Below w.heap.size w w') :
    RunIs r w (.returned (.tuple #[v, .int .i64 r.2.1, .int .i64 r.2.2])) w' := by
  obtain ⟨a, n, c, rfl, _⟩ := h.runs
  exact ⟨a, n, c, rfl, h, hb⟩

theorem ownR_iterAt {w : World} {base : Nat} {v : Value} {l : List Int} (h : OwnR w base v l) {k : Nat} (hk : k < base) (s : ByteArray) (pos : Nat) : OwnR (w.iterAt k s pos) base v l := by
  obtain ⟨h1, h2⟩ := h
  refine ⟨h1, ?_⟩
  rcases h2 with h2 | ⟨g, cap, cur, hv, hg, hh, r⟩
  · exact .inl h2
  · exact .inr ⟨g, cap, cur, hv, hg, by rw [Lib.iterAt_other w k g s pos (by omega)]; exact hh, r⟩

/-- A block that is no row of the owner's stands. -/
theorem kept_block {w w' : World} {v : Value} {k base : Nat} (hg : w.grownBy w' v.ownBlock) (hb : ∀ q, v.ownBlock = some q → base ≤ q) (hk : k < w.heap.size) (hkb : k < base) : w'.heap[k]? = w.heap[k]? :=
  hg.block k hk (fun e => by have := hb k e.symm; omega)

end Go.Proofs.YtjjnbigfdonjlaaDoor

namespace Go.Proofs.YtjjnbigfdonjlaaDoor
open Go.RowKit

theorem one_some (s : ByteArray) (p n k : Nat) (V Z : Int) (w : World) (hs : s.size ≤ 140737488355328) (hp : p < s.size) (hd : decF (s.data.toList.drop p) = some (n, k)) (hV : V = (n : Int)) (hZ : Z = (k : Int)) :
    Calls Tryd.prog 91 #[.string s, .int .i64 (p : Int)] w fun e w' => e = .returned (.tuple #[.int .i32 V, .int .i64 Z]) ∧ Below w.heap.size w w' :=
  (one_any s p w (by omega) hp).mono fun _ _ h => ⟨h.1.trans (by rw [oneF_some hd, hV, hZ]), h.2⟩
theorem one_none (s : ByteArray) (p : Nat) (w : World) (hs : s.size ≤ 140737488355328) (hp : p < s.size) (hd : decF (s.data.toList.drop p) = none) :
    Calls Tryd.prog 91 #[.string s, .int .i64 (p : Int)] w fun e w' => e = .returned (.tuple #[.int .i32 0, .int .i64 0]) ∧ Below w.heap.size w w' :=
  (one_any s p w (by omega) hp).mono fun _ _ h => ⟨h.1.trans (by rw [oneF_none hd]; rfl), h.2⟩

set_option maxRecDepth 100000 in
set_option maxHeartbeats 1000000 in
theorem refRunes_any (s : ByteArray) (w : World) (hs : s.size ≤ 20000000000) :
    Calls Tryd.prog 87 #[.string s] w (RunIs (runE s.data.toList) w) := by
  have hsI : (s.size : Int) ≤ 20000000000 := by omega
  have HS := Lib.hid hs
  have HI := Lib.hid (Inv.start s.data.toList)
  clear hs
  go_enter Tryd.func87, Tryd.ntmps87
  go_wp2
  go_loopg [5, 6] s.size (fun g v5 v6 W => ∃ (p : Nat) (acc : List Nat), Below w.heap.size w W ∧ OwnR W w.heap.size v5 (zs acc) ∧ v6 = .int .i64 p ∧ g + p = s.size ∧ acc.length ≤ p ∧ Hid (Inv s.data.toList p acc))
  case atStart => exact ⟨0, [], Below.refl _ _, OwnR.nil _ _, rfl, rfl, by simp, HI⟩
  case round =>
    obtain ⟨p, acc, hbw, hown, rfl, hg, hle, hinv⟩ := hrel
    have HG := Lib.hid hg
    have HLE := Lib.hid hle
    have hp0 : (0 : Int) ≤ (p : Int) := by omega
    have hpI : (p : Int) ≤ (s.size : Int) := by omega
    by_cases hp : (p : Int) < (s.size : Int)
    · cases hd : decF (s.data.toList.drop p) with
      | none =>
        have HE := Lib.hid (runE_none (hinv.out.stop (by rw [str_len]; omega) hd))
        have HC := Lib.hid (one_none s p wr (by have := HS.out; omega) (by omega) hd)
        clear hd hg hle
        go_wp2_with (go_at_call 91; go_must (refine HC.out.mono ?_); rintro e w1 ⟨rfl, hb⟩)
        go_ret3
        rw [HE.out]
        exact RunIs.of (r := ([], p, 5)) (OwnR.nil _ _) (hbw.trans (hb.mono hbw.size))
      | some q =>
        obtain ⟨n, k⟩ := q
        obtain ⟨hn, hk1, hk4, hkl⟩ := dec_bounds hd
        have HK := Lib.hid (show 1 ≤ k ∧ k ≤ s.size - p from ⟨hk1, by simpa using hkl⟩)
        have HI2 := Lib.hid (hinv.out.step hd)
        obtain ⟨V, hV⟩ : ∃ V : Int, V = (n : Int) := ⟨_, rfl⟩
        obtain ⟨Z, hZ⟩ : ∃ Z : Int, Z = (k : Int) := ⟨_, rfl⟩
        have HV := Lib.hid hV
        have HZ := Lib.hid hZ
        have hzb : (Z == 0) = false := by simp; omega
        have hz0 : 0 ≤ Z := by omega
        have hz4 : Z ≤ (s.size : Int) - (p : Int) := by have := HK.out; omega
        have HC := Lib.hid (one_some s p n k V Z wr (by have := HS.out; omega) (by omega) hd hV hZ)
        clear hd hg hn hk1 hk4 hkl hV hZ hle
        go_wp2_with (first
          | (go_at_call 91; go_must (refine HC.out.mono ?_); rintro e w1 ⟨rfl, hb⟩; have hown1 := hown.below hb; have hb1 := hbw.trans (hb.mono hbw.size))
          | ((with_reducible show wpList _ _ _ (⟨some 25, _, _, _, _, _⟩ :: _) _ _); go_must (refine app_runs rfl (.tmp 22) (.tmp 24) rfl w.heap.size _ (zs acc) rfl (hown1.alloc _) _ 1 1 [V] rfl (runs_one _ _) (by rw [zs_length]; have := HLE.out; have := HS.out; omega) (by have := hb1.size; simp; omega) ?_); intro v3 w3 hown3 hgr3; have hb3 := (hb1.alloc hb1.size (.cells #[.int .i32 V] 21)).grown hgr3 (by have := hb1.size; simp; omega) (fun q hq => (World.ownsRow.lt hown1 q hq).1); clear hgr3 hown1))
        go_roundg (gk - k)
        case measure => have := HG.out; have := HK.out; omega
        case rel => exact ⟨p + k, acc ++ [n], hb3, by rw [zs_append, show zs [n] = [V] from by rw [HV.out]; rfl]; exact hown3, by rw [HZ.out]; rfl, by have := HG.out; have := HK.out; omega, by rw [List.length_append, List.length_singleton]; have := HLE.out; have := HK.out; omega, HI2⟩
    · have HE := Lib.hid (runE_some (hinv.out.done (by rw [str_len]; omega)))
      clear hg hle
      go_wp2
      go_ret3
      rw [HE.out]
      exact RunIs.of (r := (acc, 0, 0)) hown hbw
#print axioms refRunes_any
end Go.Proofs.YtjjnbigfdonjlaaDoor

namespace Go.Proofs.YtjjnbigfdonjlaaDoor
open Go.RowKit

theorem refRunes_some (s : ByteArray) (L : List Nat) (e0 : Nat) (w : World) (hs : s.size ≤ 20000000000) (h : runesF s.data.toList = (some L, e0)) :
    Calls Tryd.prog 87 #[.string s] w fun e w' => ∃ a n c, e = .returned (.tuple #[.slice a n c, .int .i64 0, .int .i64 0]) ∧ Runs w' a n c (zs L) ∧ Below w.heap.size w w' :=
  (refRunes_any s w hs).mono fun e w' h1 => by
    obtain ⟨a, n, c, he, ho, hb⟩ := h1
    rw [runE_some h] at he ho
    obtain ⟨a', n', c', hv, hr⟩ := ho.runs
    simp only [Value.slice.injEq] at hv
    obtain ⟨rfl, rfl, rfl⟩ := hv
    exact ⟨a, n, c, he, hr, hb⟩
theorem refRunes_none (s : ByteArray) (p : Nat) (w : World) (hs : s.size ≤ 20000000000) (h : runesF s.data.toList = (none, p)) :
    Calls Tryd.prog 87 #[.string s] w fun e w' => ∃ a n c, e = .returned (.tuple #[.slice a n c, .int .i64 p, .int .i64 5]) ∧ Below w.heap.size w w' :=
  (refRunes_any s w hs).mono fun e w' h1 => by
    obtain ⟨a, n, c, he, ho, hb⟩ := h1
    rw [runE_none h] at he
    exact ⟨a, n, c, he, hb⟩

set_option maxRecDepth 100000 in
set_option maxHeartbeats 400000 in
theorem is_any (s : ByteArray) (w : World) (hs : s.size ≤ 20000000000) :
    Calls Tryd.prog 63 #[.string s] w fun e w' => e = .returned (.bool (textOk s.data.toList)) ∧ Below w.heap.size w w' := by
  rcases runesF_cases s.data.toList with ⟨L, hL⟩ | ⟨p, hL⟩
  · have HC := Lib.hid (refRunes_some s L _ w hs hL)
    have HE := Lib.hid (textOk_some hL)
    clear hs hL
    go_enter Tryd.func63, Tryd.ntmps63
    go_wp2_with (go_at_call 87; (with_reducible refine HC.out.mono ?_); rintro e w1 ⟨a, n, c, rfl, hr, hb⟩)
    go_ret
    exact ⟨retBl HE.out.symm, hb⟩
  · have HC := Lib.hid (refRunes_none s p w hs hL)
    have HE := Lib.hid (textOk_none hL)
    clear hs hL
    go_enter Tryd.func63, Tryd.ntmps63
    go_wp2_with (go_at_call 87; (with_reducible refine HC.out.mono ?_); rintro e w1 ⟨a, n, c, rfl, hb⟩)
    go_ret
    exact ⟨retBl HE.out.symm, hb⟩

theorem Runs.cell_ {w : World} {b off n c : Nat} {l : List Int} (h : Runs w (some ⟨b, off, none⟩) n c l) (j : Nat) (hj : j < n) : w.cell? ⟨b, off + j, none⟩ = some (.int .i32 (l.getD j 0)) := by
  rcases h.2.2.2 with ⟨h0, _⟩ | ⟨b', off', ha, hc⟩
  · omega
  · simp only [Option.some.injEq, Addr.mk.injEq, and_true] at ha
    obtain ⟨rfl, rfl⟩ := ha
    exact hc j hj
theorem Runs.addr_ {w : World} {a : Option Addr} {n c : Nat} {l : List Int} (h : Runs w a n c l) (hn : 0 < n) : ∃ b off, a = some ⟨b, off, none⟩ := by
  rcases h.2.2.2 with ⟨h0, _⟩ | ⟨b, off, ha, _⟩
  · omega
  · exact ⟨b, off, ha⟩
theorem take_seen {L : List Nat} {p : Nat} (hp : p < L.length) : (L.take (p + 1)).all seenF = ((L.take p).all seenF && seenF (L.getD p 0)) := by
  rw [List.take_succ_eq_append_getElem hp, List.all_append]; simp [hp]
theorem no_seen {L : List Nat} {p : Nat} (hp : p < L.length) (h : seenF (L.getD p 0) = false) : L.all seenF = false := by
  rw [← List.take_append_drop (p + 1) L, List.all_append, take_seen hp, h]; simp
theorem zs_at {L : List Nat} {j : Nat} (h : j < L.length) : (zs L).getD j 0 = ((L.getD j 0 : Nat) : Int) := by simp [zs, h]
theorem seenF_iff (n : Nat) : seenF n = true ↔ 32 ≤ n ∧ n ≠ 127 := by simp [seenF]

end Go.Proofs.YtjjnbigfdonjlaaDoor

namespace Go.Proofs.YtjjnbigfdonjlaaDoor
open Go.RowKit

theorem Below.step {a b c : World} (h : Below a.heap.size a b) (k : Below b.heap.size b c) : Below a.heap.size a c := h.trans (k.mono h.size)
theorem text_is (s : ByteArray) (c : Bool) (w : World) (hs : s.size ≤ 140737488355328) (hT : Tabs w) (h : textOk s.data.toList = c) :
    Calls Tryd.prog 72 #[.string s] w fun e w' => e = .returned (.bool c) ∧ Below w.heap.size w w' := by subst h; exact text_any s w hs hT
theorem is_is (s : ByteArray) (c : Bool) (w : World) (hs : s.size ≤ 20000000000) (h : textOk s.data.toList = c) :
    Calls Tryd.prog 63 #[.string s] w fun e w' => e = .returned (.bool c) ∧ Below w.heap.size w w' := by subst h; exact is_any s w hs
set_option maxRecDepth 100000 in
set_option maxHeartbeats 1000000 in
theorem note_any (s : ByteArray) (w : World) (hs : s.size ≤ 140737488355328) (hT : Tabs w) :
    Calls Tryd.prog 52 #[.string s] w fun e w' => e = .returned (.bool (noteF s.data.toList)) ∧ Below w.heap.size w w' := by
  obtain ⟨r, hr⟩ : ∃ r, r = noteF s.data.toList := ⟨_, rfl⟩
  rw [← hr]
  unfold noteF at hr
  rw [b_len] at hr
  obtain ⟨c1, h1⟩ : ∃ c, (decide ((0 : Int) ≤ (s.size : Int)) && decide ((s.size : Int) ≤ 256)) = c := ⟨_, rfl⟩
  have H1 := Lib.hid (fun w => sized_is s 0 256 c1 w h1)
  obtain ⟨c2, h2⟩ : ∃ c, textOk s.data.toList = c := ⟨_, rfl⟩
  have H2 := Lib.hid (text_is s c2 w hs hT h2)
  have hd : decide (s.size ≤ 256) = c1 := by rw [← h1, Bool.eq_iff_iff]; simp; omega
  have HR := Lib.hid (show r = (c1 && c2) by rw [hr, hd, h2])
  clear hr hd h1 h2 hs hT
  rcases c1
  · go_enter Tryd.func52, Tryd.ntmps52
    go_wp2_with (go_at_call 71; (with_reducible refine (H1.out _).mono ?_); rintro e w1 ⟨rfl, rfl⟩)
    go_ret
    exact ⟨retBl (by rw [HR.out]; rfl), Below.refl _ _⟩
  · go_enter Tryd.func52, Tryd.ntmps52
    go_wp2_with (first
      | (go_at_call 71; (with_reducible refine (H1.out _).mono ?_); rintro e w1 ⟨rfl, rfl⟩)
      | (go_at_call 72; (with_reducible refine H2.out.mono ?_); rintro e w1 ⟨rfl, hb1⟩))
    go_ret
    exact ⟨retBl (by rw [HR.out]; rfl), hb1⟩

theorem retN {a b : Int} (h : a = b) : Ending.returned (.int .i64 a) = .returned (.int .i64 b) := by rw [h]

set_option maxRecDepth 100000 in
set_option maxHeartbeats 1000000 in
theorem refNote_any (s : ByteArray) (w : World) (hs : s.size ≤ 20000000000) :
    Calls Tryd.prog 39 #[.string s] w fun e w' => e = .returned (.bool (noteF s.data.toList)) ∧ Below w.heap.size w w' := by
  obtain ⟨r, hr⟩ : ∃ r, r = noteF s.data.toList := ⟨_, rfl⟩
  rw [← hr]
  unfold noteF at hr
  rw [b_len] at hr
  obtain ⟨c3, h3⟩ : ∃ c, textOk s.data.toList = c := ⟨_, rfl⟩
  have H3 := Lib.hid (is_is s c3 w hs h3)
  rw [h3] at hr
  have HR := Lib.hid hr
  clear hr h3 hs
  by_cases h2 : (s.size : Int) ≤ 256
  · have HX := Lib.hid (show r = c3 by rw [HR.out, decide_eq_true (p := s.size ≤ 256) (by omega)]; rfl)
    go_enter Tryd.func39, Tryd.ntmps39
    go_wp2_with (go_at_call 63; (with_reducible refine H3.out.mono ?_); rintro e w1 ⟨rfl, hb1⟩)
    go_ret
    exact ⟨retBl HX.out.symm, hb1⟩
  · have HX := Lib.hid (show r = false by rw [HR.out, decide_eq_false (p := s.size ≤ 256) (by omega)]; simp)
    go_enter Tryd.func39, Tryd.ntmps39
    go_wp2
    go_ret
    exact ⟨retBl HX.out.symm, Below.refl _ _⟩
end Go.Proofs.YtjjnbigfdonjlaaDoor
