/-
  Moves, and the law of the moves, walked.
-/
import Derived.Test.YtbfaaphijgmabaaDoorMyRefMoves
import Derived.Test.YtbfaaphijgmabaaDoorMyAwake
namespace Go.Proofs.YtbfaaphijgmabaaDoor
open Go.RowKit My

/-- A copy: all of a slice, appended to an empty one made anew. -/
theorem wl_copyR {w : World} {ops : Array Oper} {rest : List Oper} {o : Oper} {a : Act} {Q : Exit → Act → World → Prop} (hw : Region.wanted o (yielded ops a.tmps) = true) (s x : Operand)
    (ho : o.op = .call { callee := .builtin .append, args := #[s, x], argTypes := #[22, 22] })
    (sa : Option Addr) (n c : Nat) (L : List Int) (hs : a.eval s = .slice (some ⟨w.heap.size, 0, none⟩) 0 0) (hx : a.eval x = .slice sa n c) (hsrc : Runs w sa n c L) (hn : n * 4 ≤ 140737488355328)
    (h : ∀ a' c' w', Runs w' a' n c' L → Below w.heap.size w w' → wpList Tryd.prog ops Q rest (a.put o.dst (.slice a' n c')) w') : wpList Tryd.prog ops Q (o :: rest) a (w.alloc (.cells #[] 21)) := by
  have hbel : Below w.heap.size w (w.alloc (.cells #[] 21)) := (Below.refl _ _).alloc (Nat.le_refl _) _
  have hown : OwnR (w.alloc (.cells #[] 21)) w.heap.size (.slice (some ⟨w.heap.size, 0, none⟩) 0 0) [] := World.ownsRow_lit w #[] 0 (Nat.le_refl _) (Nat.zero_le _) rfl
  have hsz : w.heap.size ≤ (w.alloc (.cells #[] 21)).heap.size := by simp
  obtain ⟨i0, hi, hz0, hz1, hz2⟩ := info_parts Tryd.infoR21
  obtain ⟨h1, h2, h3, h4⟩ := hsrc.below hbel
  have fin : ∀ v' w', (Builtin.append_ #[22, 22] o.type #[.slice (some ⟨w.heap.size, 0, none⟩) 0 0, .slice sa n c]).run Tryd.prog (w.alloc (.cells #[] 21)) = .ok v' w' →
      OwnR w' w.heap.size v' L → (w.alloc (.cells #[] 21)).grownBy w' (some w.heap.size) → wpList Tryd.prog ops Q (o :: rest) a (w.alloc (.cells #[] 21)) := by
    intro v' w' hr hO hg
    obtain ⟨a', n', c', rfl, hat⟩ := hO.runs
    obtain rfl : n' = n := by rw [← hat.1, h1]
    unfold wpList
    rw [if_pos hw]
    refine .inl ?_
    exact Lib.wp_append_run _ s x _ _ ho _ _ hs hx _ _ hr (h a' c' w' hat (hbel.grown hg hsz (fun k hk => by cases hk; exact Nat.le_refl _)))
  rcases h4 with ⟨rfl, rfl⟩ | ⟨b, off, rfl, hc⟩
  · have : L = [] := List.length_eq_zero_iff.1 h1
    subst this
    cases sa with
    | none => exact fin _ _ (run_append_owned_none (P := Tryd.prog) _ w.heap.size 22 o.type 21 i0 1 Tryd.underlying22 hi _ 0 _ hown) hown ⟨rfl, rfl, rfl, Nat.le_refl _, fun _ _ _ => rfl⟩
    | some ad =>
      obtain ⟨v', w', hr, h5, h6, _⟩ := run_append_own (P := Tryd.prog) _ w.heap.size 22 o.type 21 i0 _ 1 4 Tryd.underlying22 hi hz0 hz1 hz2 rfl (by decide) _ 0 _ hown ad 0 0 [] (by simp) (by simp) (by simp) (by unfold maxLen; omega) (by omega) hsz
      exact fin v' w' hr h5 h6
  · obtain ⟨v', w', hr, h5, h6, _⟩ := run_append_own (P := Tryd.prog) _ w.heap.size 22 o.type 21 i0 _ 1 4 Tryd.underlying22 hi hz0 hz1 hz2 rfl (by decide) _ 0 _ hown ⟨b, off, none⟩ n c (L.map R) (by simp [h1]) (fun j u hu => by
      rw [List.getElem?_map] at hu
      have hj : j < L.length := by
        rcases Nat.lt_or_ge j L.length with h | h
        · exact h
        · rw [List.getElem?_eq_none h] at hu; cases hu
      have := hc j (by omega)
      simp only [List.getElem?_eq_getElem hj, Option.map_some, Option.some.injEq] at hu
      subst hu
      rw [Addr.add_lit, this]
      simp [hj, R]) (fun u hu => by obtain ⟨x, _, rfl⟩ := List.mem_map.1 hu; rfl) (by unfold maxLen; omega) (by omega) hsz
    refine fin v' w' hr ?_ h6
    unfold OwnR
    have e : 0 + n = L.length := by omega
    rw [e] at h5
    exact h5

def NoMoves (w : World) (e : Ending) (w' : World) : Prop := e = .returned (.tuple #[.slice none 0 0, .int .i64 2]) ∧ w' = w
set_option maxRecDepth 100000 in
set_option maxHeartbeats 2000000 in
theorem moves_yes (A B : List Int) (aa ab : Option Addr) (n m ca cb : Nat) (w : World) (ha : Runs w aa n ca A) (hb : Runs w ab m cb B) (hA : n ≤ 4096) (hB : m ≤ 4096) :
    Calls Tryd.prog 10 #[.slice aa n ca, .slice ab m cb] w (RMovesIs A B w) := by
  have SC := Lib.hid (show Calls Tryd.prog 23 #[.slice aa n ca, .slice ab m cb] w (ScrIs (scr A B) w) by
    have h1 := ha.1
    have h2 := hb.1
    subst h1; subst h2
    exact script_any A B aa ab ca cb w ha hb hA hB)
  obtain ⟨k, hk⟩ : ∃ k, max n m = k := ⟨_, rfl⟩
  have hmx : (k : Int) = if (n : Int) < (m : Int) then (m : Int) else (n : Int) := by rw [← hk]; split <;> omega
  have HMX := Lib.hid hmx
  have z1 : decide (4096 < k) = false := by simp; omega
  have z2 : decide ((4096 : Int) < (k : Int)) = false := by simp; omega
  clear ha hb hA hB hk hmx
  go_enter Tryd.func10, Tryd.ntmps10
  go_wp2_with (first
    | ((with_reducible show wpList _ _ _ (⟨some 10, _, _, _, _, _⟩ :: _) _ _); refine wl_maxI rfl _ _ _ rfl (n : Int) (m : Int) (k : Int) rfl rfl HMX.out ?_)
    | (go_at_call 23; (refine SC.out.mono ?_); rintro en w1 ⟨a, c, rfl, hO, hb1⟩; have HO := Lib.hid hO; have HB := Lib.hid hb1; clear hO hb1))
  go_ret2
  exact ⟨a, c, rfl, HO.out, HB.out⟩
set_option maxRecDepth 100000 in
set_option maxHeartbeats 2000000 in
theorem moves_no (aa ab : Option Addr) (n m ca cb : Nat) (w : World) (h : 4096 < n ∨ 4096 < m) (hn : n ≤ 9223372036854775807) (hm : m ≤ 9223372036854775807) :
    Calls Tryd.prog 10 #[.slice aa n ca, .slice ab m cb] w (NoMoves w) := by
  obtain ⟨k, hk⟩ : ∃ k, max n m = k := ⟨_, rfl⟩
  have hmx : (k : Int) = if (n : Int) < (m : Int) then (m : Int) else (n : Int) := by rw [← hk]; split <;> omega
  have HMX := Lib.hid hmx
  have z1 : decide (4096 < k) = true := by simp; omega
  have z2 : decide ((4096 : Int) < (k : Int)) = true := by simp; omega
  clear h hk hmx
  go_enter Tryd.func10, Tryd.ntmps10
  go_wp2_with (first
    | ((with_reducible show wpList _ _ _ (⟨some 10, _, _, _, _, _⟩ :: _) _ _); refine wl_maxI rfl _ _ _ rfl (n : Int) (m : Int) (k : Int) rfl rfl HMX.out ?_))
  go_ret2
  exact ⟨rfl, rfl⟩
set_option maxRecDepth 100000 in
set_option maxHeartbeats 2000000 in
theorem refMoves_no (aa ab : Option Addr) (n m ca cb : Nat) (w : World) (h : 4096 < n ∨ 4096 < m) :
    Calls Tryd.prog 11 #[.slice aa n ca, .slice ab m cb] w (NoMoves w) := by
  by_cases h1 : 4096 < n
  · have z1 : decide (4096 < n) = true := by simpa using h1
    have z2 : decide ((4096 : Int) < (n : Int)) = true := by simp; omega
    clear h h1
    go_enter Tryd.func11, Tryd.ntmps11
    go_wp2
    go_ret2
    exact ⟨rfl, rfl⟩
  · have z1 : decide (4096 < n) = false := by simpa using h1
    have z2 : decide ((4096 : Int) < (n : Int)) = false := by simp; omega
    have z3 : decide (4096 < m) = true := by simp; omega
    have z4 : decide ((4096 : Int) < (m : Int)) = true := by simp; omega
    clear h h1
    go_enter Tryd.func11, Tryd.ntmps11
    go_wp2
    go_ret2
    exact ⟨rfl, rfl⟩
set_option maxRecDepth 100000 in
set_option maxHeartbeats 4000000 in
theorem movesLaw_any (A B : List Int) (aa ab : Option Addr) (n m ca cb : Nat) (w : World) (ha : Runs w aa n ca A) (hb : Runs w ab m cb B) (hn4 : n * 4 ≤ 140737488355328) (hm4 : m * 4 ≤ 140737488355328) (hT : Tabs w) :
    Calls Tryd.prog 3 #[.slice aa n ca, .slice ab m cb] w (BoolIs true w) := by
  have hnI : (n : Int) ≤ 35184372088832 := by omega
  have hmI : (m : Int) ≤ 35184372088832 := by omega
  have AW := Lib.hid (fun W (hb : Below w.heap.size w W) => awake_any W (hT.below hb))
  have HA := Lib.hid ha
  have HB := Lib.hid hb
  have HN4 := Lib.hid hn4
  have HM4 := Lib.hid hm4
  clear hT ha hb hn4 hm4
  by_cases h1 : 150 < n
  · by_cases h3 : n ≤ 4096
    · by_cases h4 : m ≤ 4096
      · have z1 : decide (150 < n) = true := by simp; omega
        have z1I : decide ((150 : Int) < (n : Int)) = true := by simp; omega
        have z3 : decide (n ≤ 4096) = true := by simp; omega
        have z3I : decide ((n : Int) ≤ (4096 : Int)) = true := by simp; omega
        have z4 : decide (m ≤ 4096) = true := by simp; omega
        have z4I : decide ((m : Int) ≤ (4096 : Int)) = true := by simp; omega
        clear h1 h3 h4
        clear HA HB HN4 HM4 AW
        go_enter Tryd.func3, Tryd.ntmps3
        go_wp2
        go_ret
        exact ⟨rfl, Below.refl _ _⟩
      · have z0 := trivial
        have z1 : decide (150 < n) = true := by simp; omega
        have z1I : decide ((150 : Int) < (n : Int)) = true := by simp; omega
        have z3 : decide (n ≤ 4096) = true := by simp; omega
        have z3I : decide ((n : Int) ≤ (4096 : Int)) = true := by simp; omega
        have z4 : decide (m ≤ 4096) = false := by simp; omega
        have z4I : decide ((m : Int) ≤ (4096 : Int)) = false := by simp; omega
        have HS := Lib.hid (show 4096 < n ∨ 4096 < m by omega)
        have HNB := Lib.hid (show n ≤ 9223372036854775807 ∧ m ≤ 9223372036854775807 by omega)
        have s1 := fun W => run_str (w := W) (Bytes.nil W) 9 Tryd.underlying9
        go_enter Tryd.func3, Tryd.ntmps3
        go_wp2_with (first
          | ((with_reducible show wpList _ _ _ (⟨some 30, _, _, _, _, _⟩ :: _) _ _); refine wl_copyR rfl _ _ rfl aa n ca A rfl rfl HA.out HN4.out ?_; intro a1 c1 w1 hr1 hb1; have HB1 := Lib.hid hb1; have R1 := Lib.hid hr1; clear hr1 hb1)
          | ((with_reducible show wpList _ _ _ (⟨some 33, _, _, _, _, _⟩ :: _) _ _); refine wl_copyR rfl _ _ rfl ab m cb B rfl rfl (HB.out.below HB1.out) HM4.out ?_; intro a2 c2 w2 hr2 hb2; have HB2 := Lib.hid (HB1.out.trans (hb2.mono HB1.out.size)); have R1b := Lib.hid (R1.out.below hb2); have R2 := Lib.hid hr2; clear hr2 hb2)
          | (go_at_call 10; (refine (moves_no a1 a2 n m c1 c2 w2 HS.out HNB.out.1 HNB.out.2).mono ?_); rintro en w3 ⟨rfl, rfl⟩)
          | (go_at_call 11; (refine (refMoves_no aa ab n m ca cb w3 HS.out).mono ?_); rintro en w4 ⟨rfl, rfl⟩)
          | (go_at_call 12; (refine (AW.out _ HB2.out).mono ?_); rintro en w7 ⟨rfl, hb7⟩; have HB7 := Lib.hid (HB2.out.trans (hb7.mono HB2.out.size)); clear hb7))
        go_ret
        exact ⟨rfl, HB7.out⟩
    · have z0 := trivial
      have z1 : decide (150 < n) = true := by simp; omega
      have z1I : decide ((150 : Int) < (n : Int)) = true := by simp; omega
      have z3 : decide (n ≤ 4096) = false := by simp; omega
      have z3I : decide ((n : Int) ≤ (4096 : Int)) = false := by simp; omega
      have HS := Lib.hid (show 4096 < n ∨ 4096 < m by omega)
      have HNB := Lib.hid (show n ≤ 9223372036854775807 ∧ m ≤ 9223372036854775807 by omega)
      have s1 := fun W => run_str (w := W) (Bytes.nil W) 9 Tryd.underlying9
      go_enter Tryd.func3, Tryd.ntmps3
      go_wp2_with (first
        | ((with_reducible show wpList _ _ _ (⟨some 30, _, _, _, _, _⟩ :: _) _ _); refine wl_copyR rfl _ _ rfl aa n ca A rfl rfl HA.out HN4.out ?_; intro a1 c1 w1 hr1 hb1; have HB1 := Lib.hid hb1; have R1 := Lib.hid hr1; clear hr1 hb1)
        | ((with_reducible show wpList _ _ _ (⟨some 33, _, _, _, _, _⟩ :: _) _ _); refine wl_copyR rfl _ _ rfl ab m cb B rfl rfl (HB.out.below HB1.out) HM4.out ?_; intro a2 c2 w2 hr2 hb2; have HB2 := Lib.hid (HB1.out.trans (hb2.mono HB1.out.size)); have R1b := Lib.hid (R1.out.below hb2); have R2 := Lib.hid hr2; clear hr2 hb2)
        | (go_at_call 10; (refine (moves_no a1 a2 n m c1 c2 w2 HS.out HNB.out.1 HNB.out.2).mono ?_); rintro en w3 ⟨rfl, rfl⟩)
        | (go_at_call 11; (refine (refMoves_no aa ab n m ca cb w3 HS.out).mono ?_); rintro en w4 ⟨rfl, rfl⟩)
        | (go_at_call 12; (refine (AW.out _ HB2.out).mono ?_); rintro en w7 ⟨rfl, hb7⟩; have HB7 := Lib.hid (HB2.out.trans (hb7.mono HB2.out.size)); clear hb7))
      go_ret
      exact ⟨rfl, HB7.out⟩
  · by_cases h2 : 150 < m
    · by_cases h4 : m ≤ 4096
      · have z0 := trivial
        have z1 : decide (150 < n) = false := by simp; omega
        have z1I : decide ((150 : Int) < (n : Int)) = false := by simp; omega
        have z2 : decide (150 < m) = true := by simp; omega
        have z2I : decide ((150 : Int) < (m : Int)) = true := by simp; omega
        have z3 : decide (n ≤ 4096) = true := by simp; omega
        have z3I : decide ((n : Int) ≤ (4096 : Int)) = true := by simp; omega
        have z4 : decide (m ≤ 4096) = true := by simp; omega
        have z4I : decide ((m : Int) ≤ (4096 : Int)) = true := by simp; omega
        clear h1 h2 h4
        clear HA HB HN4 HM4 AW
        go_enter Tryd.func3, Tryd.ntmps3
        go_wp2
        go_ret
        exact ⟨rfl, Below.refl _ _⟩
      · have z0 := trivial
        have z1 : decide (150 < n) = false := by simp; omega
        have z1I : decide ((150 : Int) < (n : Int)) = false := by simp; omega
        have z2 : decide (150 < m) = true := by simp; omega
        have z2I : decide ((150 : Int) < (m : Int)) = true := by simp; omega
        have z3 : decide (n ≤ 4096) = true := by simp; omega
        have z3I : decide ((n : Int) ≤ (4096 : Int)) = true := by simp; omega
        have z4 : decide (m ≤ 4096) = false := by simp; omega
        have z4I : decide ((m : Int) ≤ (4096 : Int)) = false := by simp; omega
        have HS := Lib.hid (show 4096 < n ∨ 4096 < m by omega)
        have HNB := Lib.hid (show n ≤ 9223372036854775807 ∧ m ≤ 9223372036854775807 by omega)
        have s1 := fun W => run_str (w := W) (Bytes.nil W) 9 Tryd.underlying9
        go_enter Tryd.func3, Tryd.ntmps3
        go_wp2_with (first
          | ((with_reducible show wpList _ _ _ (⟨some 30, _, _, _, _, _⟩ :: _) _ _); refine wl_copyR rfl _ _ rfl aa n ca A rfl rfl HA.out HN4.out ?_; intro a1 c1 w1 hr1 hb1; have HB1 := Lib.hid hb1; have R1 := Lib.hid hr1; clear hr1 hb1)
          | ((with_reducible show wpList _ _ _ (⟨some 33, _, _, _, _, _⟩ :: _) _ _); refine wl_copyR rfl _ _ rfl ab m cb B rfl rfl (HB.out.below HB1.out) HM4.out ?_; intro a2 c2 w2 hr2 hb2; have HB2 := Lib.hid (HB1.out.trans (hb2.mono HB1.out.size)); have R1b := Lib.hid (R1.out.below hb2); have R2 := Lib.hid hr2; clear hr2 hb2)
          | (go_at_call 10; (refine (moves_no a1 a2 n m c1 c2 w2 HS.out HNB.out.1 HNB.out.2).mono ?_); rintro en w3 ⟨rfl, rfl⟩)
          | (go_at_call 11; (refine (refMoves_no aa ab n m ca cb w3 HS.out).mono ?_); rintro en w4 ⟨rfl, rfl⟩)
          | (go_at_call 12; (refine (AW.out _ HB2.out).mono ?_); rintro en w7 ⟨rfl, hb7⟩; have HB7 := Lib.hid (HB2.out.trans (hb7.mono HB2.out.size)); clear hb7))
        go_ret
        exact ⟨rfl, HB7.out⟩
    · have z0 := trivial
      have z1 : decide (150 < n) = false := by simp; omega
      have z1I : decide ((150 : Int) < (n : Int)) = false := by simp; omega
      have z2 : decide (150 < m) = false := by simp; omega
      have z2I : decide ((150 : Int) < (m : Int)) = false := by simp; omega
      have HS := Lib.hid (show n ≤ 4096 ∧ m ≤ 4096 by omega)
      clear h1 h2
      go_enter Tryd.func3, Tryd.ntmps3
      go_wp2_with (first
        | ((with_reducible show wpList _ _ _ (⟨some 30, _, _, _, _, _⟩ :: _) _ _); refine wl_copyR rfl _ _ rfl aa n ca A rfl rfl HA.out HN4.out ?_; intro a1 c1 w1 hr1 hb1; have HB1 := Lib.hid hb1; have R1 := Lib.hid hr1; clear hr1 hb1)
        | ((with_reducible show wpList _ _ _ (⟨some 33, _, _, _, _, _⟩ :: _) _ _); refine wl_copyR rfl _ _ rfl ab m cb B rfl rfl (HB.out.below HB1.out) HM4.out ?_; intro a2 c2 w2 hr2 hb2; have HB2 := Lib.hid (HB1.out.trans (hb2.mono HB1.out.size)); have R1b := Lib.hid (R1.out.below hb2); have R2 := Lib.hid hr2; clear hr2 hb2)
        | (go_at_call 10; (refine (moves_yes A B a1 a2 n m c1 c2 w2 R1b.out R2.out HS.out.1 HS.out.2).mono ?_); rintro en w3 ⟨a3, c3, rfl, ho3, hb3⟩; have HB3 := Lib.hid (HB2.out.trans (hb3.mono HB2.out.size)); have O3 := Lib.hid ho3; clear ho3 hb3)
        | (go_at_call 11; (refine (refMoves_any A B aa ab n m ca cb w3 (HA.out.below HB3.out) (HB.out.below HB3.out) HS.out.1 HS.out.2).mono ?_); rintro en w4 ⟨a4, c4, rfl, ho4, hb4⟩; have HB4 := Lib.hid (HB3.out.trans (hb4.mono HB3.out.size)); have s1 := run_str ((O3.out.below hb4).isBytes) 9 Tryd.underlying9; have s2 := run_str ho4.isBytes 9 Tryd.underlying9; clear ho4 hb4)
        | (go_at_call 12; (refine (AW.out _ HB4.out).mono ?_); rintro en w7 ⟨rfl, hb7⟩; have HB7 := Lib.hid (HB4.out.trans (hb7.mono HB4.out.size)); clear hb7))
      go_ret
      exact ⟨rfl, HB7.out⟩
#print axioms movesLaw_any
end Go.Proofs.YtbfaaphijgmabaaDoor
