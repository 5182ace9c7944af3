/-
  The walk of Crash's closure: a fate is taken.
-/
import Derived.Test.YtemphljkfpkgmaaDkNamesAll
import Derived.Test.YtemphljkfpkgmaaCrashMath
import Derived.IntWalk
namespace Go.Proofs.Ytemphljkfpkgmaa
open Go.RowKit Go.Maps

/-- An int of any sign. -/
def I (z : Int) : Value := .int .i64 z
section
variable {w w' : World} {a : Option Addr} {n c : Nat}
theorem At1.later {α : Type} [Inhabited α] {mk : α → Value} {L : List α} {X : Nat → Prop} (h : At1 mk w a n c L) (hx : 0 < n → ∀ b off, a = some ⟨b, off, none⟩ → ¬ X b) (hc : Chg X w w') : At1 mk w' a n c L := by
  obtain ⟨h1, h2, h3, h4⟩ := h
  refine ⟨h1, h2, h3, ?_⟩
  rcases h4 with h4 | ⟨b, off, ha, hcl⟩
  · exact .inl h4
  · exact .inr ⟨b, off, ha, fun j hj => cell_same (hcl j hj) (hc.block b (World.block_lt_of_cell? _ _ (hcl j hj)) (hx (by omega) b off ha))⟩
theorem At1.tail {b off : Nat} {L : List Int} (h : At1 I w (some ⟨b, off, none⟩) n c L) (hn : 0 < n) (a' : Option Addr) (ha : a' = if c = 1 then some ⟨b, off, none⟩ else some ⟨b, off + 1, none⟩) : At1 I w a' (n - 1) (c - 1) (L.drop 1) := by
  have hc := h.cell
  obtain ⟨h1, h2, h3, h4⟩ := h
  refine ⟨by simp; omega, by omega, by omega, ?_⟩
  by_cases e : c = 1
  · exact .inl ⟨by omega, by omega⟩
  · rw [if_neg e] at ha
    refine .inr ⟨b, off + 1, ha, fun j hj => ?_⟩
    have := hc (j + 1) (by omega)
    rw [show off + 1 + j = off + (j + 1) from by omega, this]
    simp [List.getD_eq_getElem?_getD]
end
/-- What a fate leaves: its number; the fates that are left in the closure's variable. -/
def FateEnd (w : World) (xb : Nat) (a : Option Addr) (n : Nat) (fs : List Int) (c0 : Nat) (e : Ending) (w' : World) : Prop :=
  e = .returned (.int .i64 (fateF fs 0 c0 : Nat)) ∧ Chg (fun k => k = xb) w w' ∧ ∃ a' n' c', RowAt w' xb 27 [.slice a' n' c'] ∧ At1 I w' a' n' c' (fs.drop 1) ∧ (0 < n' → 0 < n) ∧ ∀ g off, a' = some ⟨g, off, none⟩ → ∃ off', a = some ⟨g, off', none⟩
theorem emod_code (x : Int) (c : Nat) (hc : 0 < c) : (Int.tmod (Int.tmod x (c : Int) + (c : Int)) (c : Int)) = x % (c : Int) := by
  have h1 := Int.emod_nonneg x (b := (c : Int)) (by omega)
  have h2 := Int.emod_lt_of_pos x (b := (c : Int)) (by omega)
  by_cases hx : 0 ≤ x
  · have e : Int.tmod x (c : Int) = x % (c : Int) := Int.tmod_eq_emod_of_nonneg hx
    rw [e, Int.tmod_eq_emod_of_nonneg (by omega)]
    simp
  · have h3 := Int.tmod_lt_of_pos x (b := (c : Int)) (by omega)
    have h4 : -(c : Int) < Int.tmod x (c : Int) := by
      have h5 := Int.tmod_lt_of_pos (-x) (b := (c : Int)) (by omega)
      rw [Int.neg_tmod] at h5
      omega
    rw [Int.tmod_eq_emod_of_nonneg (by omega), Int.add_emod_right]
    rw [Int.tmod_def]
    exact Int.sub_mul_emod_self_left _ _ _

theorem fate_fin {w : World} {xb b off n c c0 n' c' : Nat} {a' : Option Addr} {x : Int} {xs : List Int} {u : Int} (hn : 0 < n) (rx : RowAt w xb 27 [.slice (some ⟨b, off, none⟩) n c]) (hT : At1 I w a' n' c' ((x :: xs).drop 1)) (hx : b ≠ xb) (ha : (a'.map (·.block)) = some b) (hz : ((fateF (x :: xs) 0 c0 : Nat) : Int) = x % (c0 : Int)) (hu : u = x % (c0 : Int)) (v : Value) (hv : v = .slice a' n' c') :
    FateEnd w xb (some ⟨b, off, none⟩) n (x :: xs) c0 (.returned (.int .i64 u)) (w.setCell ⟨xb, 0, none⟩ v) := by
  have hc : Chg (fun k => k = xb) w (w.setCell ⟨xb, 0, none⟩ v) := Chg.setCell (X := fun k => k = xb) (a := ⟨xb, 0, none⟩) Chg.refl (.inl rfl) _
  have hb : ∀ g off', a' = some ⟨g, off', none⟩ → g = b := fun g off' e => by rw [e] at ha; simpa using ha
  refine ⟨by rw [hu, ← hz], hc, a', n', c', ?_, hT.later (fun _ g off' e e2 => hx (by rw [← hb g off' e]; exact e2)) hc, fun _ => hn, fun g off' e => ⟨off, by rw [hb g off' e]⟩⟩
  rw [← hv]
  exact rx.set 0 v
set_option maxRecDepth 100000 in
set_option maxHeartbeats 1000000 in
theorem fate_any {w : World} (xb : Nat) (a : Option Addr) (n c : Nat) (fs : List Int) (c0 : Nat) (hc0 : 0 < c0) (hc1 : c0 ≤ 2000000000) (rx : RowAt w xb 27 [.slice a n c]) (hA : At1 I w a n c fs) (hz : ∀ z ∈ fs, -9223372036854775808 ≤ z ∧ z ≤ 9223372036854775807) :
    Calls Try.prog 47 #[.int .i64 (c0 : Int), Pt xb] w (FateEnd w xb a n fs c0) := by
  have cx := rx.cell 0 rfl
  have fx := rx.free 0
  have hlen := hA.1
  by_cases hn : n = 0
  · have hfs : fs = [] := List.length_eq_zero_iff.1 (by omega)
    subst hn hfs
    have HE := Lib.hid (show FateEnd w xb a 0 [] c0 (.returned (.int .i64 0)) w from ⟨by simp [fateF], Chg.refl, a, 0, c, rx, hA, id, fun g off e => ⟨off, e⟩⟩)
    clear rx hA hz hlen
    go_enter Try.func47, Try.ntmps47
    go_wp2
    go_ret
    exact HE.out
  · obtain ⟨b, off, rfl⟩ := hA.some_ (by omega)
    obtain ⟨x, xs, rfl⟩ : ∃ x xs, fs = x :: xs := by
      cases fs with
      | nil => simp at hlen; omega
      | cons x xs => exact ⟨x, xs, rfl⟩
    have hxz := hz x List.mem_cons_self
    have hcell := hA.cell 0 (by omega)
    rw [Nat.add_zero] at hcell
    have hcell2 : w.cell? ⟨b, off, none⟩ = some (.int .i64 x) := hcell
    obtain ⟨a', ha'⟩ : ∃ a', a' = if c = 1 then some (⟨b, off, none⟩ : Addr) else some ⟨b, off + 1, none⟩ := ⟨_, rfl⟩
    have HT := Lib.hid (At1.tail hA (by omega) a' ha')
    have HZ := Lib.hid (show ((fateF (x :: xs) 0 c0 : Nat) : Int) = x % (c0 : Int) by
      have := Int.emod_nonneg x (b := (c0 : Int)) (by omega)
      simp [fateF]
      omega)
    have HEM := Lib.hid (emod_code x c0 hc0)
    have HRX := Lib.hid rx
    have HX := Lib.hid (show b ≠ xb from fun e => by
      subst e
      rw [cell_of_row w b off _ _ _ rx] at hcell2
      cases off with
      | zero => simp at hcell2
      | succ o => simp at hcell2)
    have HNP := Lib.hid (show 0 < n by omega)
    have HAA := Lib.hid ha'
    have hnI : (1 : Int) ≤ (n : Int) := by omega
    have hnn : 1 ≤ n := by omega
    have hncI : (n : Int) ≤ (c : Int) := by have := hA.2.1; omega
    have hnc : n ≤ c := hA.2.1
    have hcI : (1 : Int) ≤ (c : Int) := by omega
    have hn0 : ((n : Int) == 0) = false := by simp; omega
    have h0n : (0 : Int) < (n : Int) := by omega
    have h0c : (0 : Int) < (c0 : Int) := by omega
    have hc0z : ((c0 : Int) == 0) = false := by simp; omega
    have hcI1 : (c0 : Int) ≤ 2000000000 := by omega
    have hr1 : -2000000000 ≤ Int.tmod x (c0 : Int) := by
      have h5 := Int.tmod_lt_of_pos (-x) (b := (c0 : Int)) (by omega)
      rw [Int.neg_tmod] at h5
      omega
    have hr2 : Int.tmod x (c0 : Int) ≤ 2000000000 := by
      have h5 := Int.tmod_lt_of_pos x (b := (c0 : Int)) (by omega)
      omega
    have hw : wrap64 (Int.tmod x (c0 : Int) + (c0 : Int)) = Int.tmod x (c0 : Int) + (c0 : Int) := IntWalk.wrap64_in _ (by omega)
    have FIN := Lib.hid (fun (v : Value) (hv : v = .slice a' (n - 1) (c - 1)) => fate_fin HNP.out HRX.out HT.out HX.out (by rw [ha']; split <;> rfl) HZ.out HEM.out v hv)
    clear rx hA hz hlen hcell hn hr1 hr2
    by_cases hc1 : c = 1
    · subst hc1
      go_enter Try.func47, Try.ntmps47
      go_wp2
      go_ret
      exact FIN.out _ (by rw [HAA.out]; obtain rfl : n = 1 := by omega
                          rfl)
    · go_enter Try.func47, Try.ntmps47
      go_wp2
      go_ret
      exact FIN.out _ (by rw [HAA.out, if_neg hc1])
#print axioms fate_any
end Go.Proofs.Ytemphljkfpkgmaa
