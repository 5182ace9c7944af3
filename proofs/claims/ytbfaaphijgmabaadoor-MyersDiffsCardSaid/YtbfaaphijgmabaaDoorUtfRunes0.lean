/-
  The walks of Runes, the program's and the document's, and of Same.
-/
import Derived.Test.YtbfaaphijgmabaaDoorUtfNext
import Derived.Test.YtbfaaphijgmabaaDoorRunes
namespace Go.Proofs.YtbfaaphijgmabaaDoor
open Go.RowKit

/-- Runes as numbers. -/
def zs (l : List Nat) : List Int := l.map fun n : Nat => (n : Int)
theorem zs_length (l : List Nat) : (zs l).length = l.length := by simp [zs]
theorem zs_append (l m : List Nat) : zs (l ++ m) = zs l ++ zs m := by simp [zs]
theorem zs_inj {l m : List Nat} (h : zs l = zs m) : l = m := by
  unfold zs at h
  exact (List.map_inj_right (fun x y hxy => by omega)).1 h

/-- What Runes answers. -/
def runE (l : List UInt8) : List Nat × Nat × Nat := match runesF l with | (some L, _) => (L, 0, 0) | (none, p) => ([], p, 5)
theorem runE_some {l : List UInt8} {L : List Nat} {e : Nat} (h : runesF l = (some L, e)) : runE l = (L, 0, 0) := by unfold runE; rw [h]
theorem runE_none {l : List UInt8} {p : Nat} (h : runesF l = (none, p)) : runE l = ([], p, 5) := by unfold runE; rw [h]

def RunIs (r : List Nat × Nat × Nat) (w : World) (e : Ending) (w' : World) : Prop :=
  ∃ a n c, e = .returned (.tuple #[.slice a n c, .int .i64 r.2.1, .int .i64 r.2.2]) ∧ OwnR w' w.heap.size (.slice a n c) (zs r.1) ∧ Below w.heap.size w w'

theorem RunIs.of {r : List Nat × Nat × Nat} {w w' : World} {v : Value} (h : OwnR w' w.heap.size v (zs r.1)) (hb : Below w.heap.size w w') :
    RunIs r w (.returned (.tuple #[v, .int .i64 r.2.1, .int .i64 r.2.2])) w' := by
  obtain ⟨a, n, c, rfl, _⟩ := h.runs
  exact ⟨a, n, c, rfl, h, hb⟩

theorem ownR_iterAt {w : World} {base : Nat} {v : Value} {l : List Int} (h : OwnR w base v l) {k : Nat} (hk : k < base) (s : ByteArray) (pos : Nat) : OwnR (w.iterAt k s pos) base v l := by
  obtain ⟨h1, h2⟩ := h
  refine ⟨h1, ?_⟩
  rcases h2 with h2 | ⟨g, cap, cur, hv, hg, hh, r⟩
  · exact .inl h2
  · exact .inr ⟨g, cap, cur, hv, hg, by rw [Lib.iterAt_other w k g s pos (by omega)]; exact hh, r⟩

/-- A block that is no row of the owner's stands. -/
theorem kept_block {w w' : World} {v : Value} {k base : Nat} (hg : w.grownBy w' v.ownBlock) (hb : ∀ q, v.ownBlock = some q → base ≤ q) (hk : k < w.heap.size) (hkb : k < base) : w'.heap[k]? = w.heap[k]? :=
  hg.block k hk (fun e => by have := hb k e.symm; omega)

end Go.Proofs.YtbfaaphijgmabaaDoor
