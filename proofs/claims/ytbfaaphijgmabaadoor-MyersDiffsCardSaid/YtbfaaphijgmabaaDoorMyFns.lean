/-
  A list of furthest points, as it lies: at, high, reaches, around, near walked.
-/
import Derived.Test.YtbfaaphijgmabaaDoorMyEd
import Derived.Test.YtbfaaphijgmabaaDoorRunes
import Derived.Deep.QuietTactic
import Derived.BigQuiet
import Derived.IntWalk
namespace Go.Proofs.YtbfaaphijgmabaaDoor
open Go.RowKit My

/-- A block of runes. -/
def RBlock (w : World) (a : Option Addr) : Prop := ∀ b off, a = some ⟨b, off, none⟩ → ∃ cs fr, w.heap[b]? = some (.cells cs 21 fr)
/-- A list that can be read, its numbers small. -/
structure Lst (w : World) (a : Option Addr) (n c : Nat) (l : List Int) : Prop where
  typed : RBlock w a
  runs : Runs w a n c l
  small : ∀ i, -1 ≤ l.getD i 0 ∧ l.getD i 0 ≤ 8192
  few : n ≤ 8193
theorem RBlock.lt {w : World} {a : Option Addr} (h : RBlock w a) {b off : Nat} (e : a = some ⟨b, off, none⟩) : b < w.heap.size := by
  obtain ⟨cs, fr, h1⟩ := h b off e
  rcases Nat.lt_or_ge b w.heap.size with h | h
  · exact h
  · rw [Array.getElem?_eq_none h] at h1; cases h1
theorem RBlock.below {w w' : World} {a : Option Addr} (h : RBlock w a) (hb : Below w.heap.size w w') : RBlock w' a := fun b off e => by
  obtain ⟨cs, fr, h1⟩ := h b off e
  exact ⟨cs, fr, (hb.block b (h.lt e)).trans h1⟩
theorem Lst.below {w w' : World} {a : Option Addr} {n c : Nat} {l : List Int} (h : Lst w a n c l) (hb : Below w.heap.size w w') : Lst w' a n c l := ⟨h.typed.below hb, h.runs.below hb, h.small, h.few⟩
def IntIs (z : Int) (w : World) (e : Ending) (w' : World) : Prop := e = .returned (.int .i64 z) ∧ Below w.heap.size w w'
def BoolIs (z : Bool) (w : World) (e : Ending) (w' : World) : Prop := e = .returned (.bool z) ∧ Below w.heap.size w w'
set_option maxRecDepth 100000 in
set_option maxHeartbeats 1000000 in
theorem at_any (low : Int) (a : Option Addr) (n c : Nat) (l : List Int) (p : Int) (w : World) (h : Lst w a n c l) :
    Calls Tryd.prog 46 #[.agg #[.int .i64 low, .slice a n c], .int .i64 p] w (IntIs (atF l p) w) := by
  have hl := h.runs.1
  by_cases h0 : p < 0
  · have hz := Lib.hid (atF_out (l := l) (p := p) (.inl h0))
    have h0b : decide (p < 0) = true := by simpa using h0
    clear hl h
    go_enter Tryd.func46, Tryd.ntmps46
    go_wp2
    go_ret
    exact ⟨by rw [hz.out]; rfl, (Below.refl _ _).alloc (Nat.le_refl _) _⟩
  · have h0b : decide (p < 0) = false := by simpa using h0
    by_cases h1 : (n : Int) ≤ p
    · have hz := Lib.hid (atF_out (l := l) (p := p) (.inr (by omega)))
      have h1b : decide ((n : Int) ≤ p) = true := by simpa using h1
      clear hl h
      go_enter Tryd.func46, Tryd.ntmps46
      go_wp2
      go_ret
      exact ⟨by rw [hz.out]; rfl, (Below.refl _ _).alloc (Nat.le_refl _) _⟩
    · obtain ⟨i, rfl⟩ : ∃ i : Nat, p = i := ⟨p.toNat, by omega⟩
      have hi : i < n := by omega
      have hz := Lib.hid (atF_in (l := l) (i := i) (by omega))
      have h1b : decide ((n : Int) ≤ (i : Int)) = false := by simpa using h1
      have hs := h.small i
      obtain ⟨b, off, rfl, hc⟩ : ∃ b off, a = some ⟨b, off, none⟩ ∧ ∀ j, j < n → w.cell? ⟨b, off + j, none⟩ = some (.int .i32 (l.getD j 0)) := by
        rcases h.runs.2.2.2 with h | h
        · omega
        · exact h
      have hci := hc i hi
      have hcw : (w.alloc (.cells #[.int .i64 low, .slice (some ⟨b, off, none⟩) n c] 77)).cell? ⟨b, off + i, none⟩ = some (.int .i32 (l.getD i 0)) := (((Below.refl _ w).alloc (Nat.le_refl _) _).cell (World.block_lt_of_cell? _ _ hci)).trans hci
      obtain ⟨v, hv⟩ : ∃ v, l.getD i 0 = v := ⟨_, rfl⟩
      rw [hv] at hcw hs hz
      have hw : IntKind.i64.wrap v = v := IntWalk.i64_in _ (by omega)
      clear hl h hc hci hv
      go_enter Tryd.func46, Tryd.ntmps46
      go_wp2
      go_ret
      exact ⟨by rw [hz.out]; rfl, (Below.refl _ _).alloc (Nat.le_refl _) _⟩
set_option maxRecDepth 100000 in
theorem high_any (low : Int) (a : Option Addr) (n c : Nat) (w : World) (hn : n ≤ 8193) (hlo : -8192 ≤ low) (hhi : low ≤ 8192) :
    Calls Tryd.prog 51 #[.agg #[.int .i64 low, .slice a n c]] w (IntIs (low + 2 * (n : Int) - 2) w) := by
  have hnI : (n : Int) ≤ 8193 := by omega
  have hn0 : (0 : Int) ≤ (n : Int) := by omega
  clear hn
  go_enter Tryd.func51, Tryd.ntmps51
  go_wp2
  go_ret
  exact ⟨rfl, (Below.refl _ _).alloc (Nat.le_refl _) _⟩
set_option maxRecDepth 100000 in
set_option maxHeartbeats 1000000 in
theorem reaches_any (low : Int) (a : Option Addr) (n c : Nat) (l : List Int) (x y : Int) (w : World) (h : Lst w a n c l) (hlo : -8192 ≤ low) (hhi : low ≤ 8192) (hx : -1 ≤ x) (hx2 : x ≤ 20000) (hy : -1 ≤ y) (hy2 : y ≤ 20000) :
    Calls Tryd.prog 37 #[.agg #[.int .i64 low, .slice a n c], .int .i64 x, .int .i64 y] w (BoolIs (reachF low l x y) w) := by
  by_cases h0 : 0 ≤ x - y - low
  · have h0b : decide (0 ≤ x - y - low) = true := by simpa using h0
    by_cases h2 : (x - y - low) % 2 = 0
    · have h2b : ((x - y - low) % 2 == 0) = true := by simpa using h2
      have HZ := Lib.hid (show reachF low l x y = decide (x ≤ atF l ((x - y - low) / 2)) by unfold reachF; rw [h0b, h2b]; rfl)
      have HA := Lib.hid (fun W (hb : Below w.heap.size w W) => at_any low a n c l ((x - y - low) / 2) W (h.below hb))
      clear h h2
      go_enter Tryd.func37, Tryd.ntmps37
      go_wp2_with (go_at_call 46; (with_reducible refine (HA.out _ ((Below.refl _ _).alloc (Nat.le_refl _) _)).mono ?_); rintro e w2 ⟨rfl, hb2⟩)
      go_ret
      exact ⟨by rw [HZ.out]; rfl, ((Below.refl _ _).alloc (Nat.le_refl _) _).trans (hb2.mono (by simp))⟩
    · have h2b : ((x - y - low) % 2 == 0) = false := by simpa using h2
      have HZ := Lib.hid (show reachF low l x y = false by unfold reachF; rw [h0b, h2b]; rfl)
      clear h h2
      go_enter Tryd.func37, Tryd.ntmps37
      go_wp2
      go_ret
      exact ⟨by rw [HZ.out]; rfl, (Below.refl _ _).alloc (Nat.le_refl _) _⟩
  · have h0b : decide (0 ≤ x - y - low) = false := by simpa using h0
    have HZ := Lib.hid (show reachF low l x y = false by unfold reachF; rw [h0b]; rfl)
    clear h
    go_enter Tryd.func37, Tryd.ntmps37
    go_wp2
    go_ret
    exact ⟨by rw [HZ.out]; rfl, (Below.refl _ _).alloc (Nat.le_refl _) _⟩
#print axioms reaches_any
end Go.Proofs.YtbfaaphijgmabaaDoor
