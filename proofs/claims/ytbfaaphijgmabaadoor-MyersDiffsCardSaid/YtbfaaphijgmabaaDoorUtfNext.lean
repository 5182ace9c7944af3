/-
  Check at a text and at none; the step of a range over a text.
-/
import Derived.Test.YtbfaaphijgmabaaDoorUtfCheck
import Derived.Lib.OthersKept
namespace Go.Proofs.YtbfaaphijgmabaaDoor
open Go.RowKit

theorem check_some (s : ByteArray) (L : List Nat) (e0 : Nat) (w : World) (hs : s.size ≤ 140737488355328) (hT : Tabs w) (h : runesF s.data.toList = (some L, e0)) :
    Calls Tryd.prog 27 #[.string s] w fun e w' => e = .returned (.tuple #[.int .i64 0, .int .i64 0]) ∧ Below w.heap.size w w' :=
  (check_any s w hs hT).mono fun _ _ h1 => ⟨h1.1.trans (by rw [chkE_some h]; rfl), h1.2⟩
theorem check_none (s : ByteArray) (p : Nat) (w : World) (hs : s.size ≤ 140737488355328) (hT : Tabs w) (h : runesF s.data.toList = (none, p)) :
    Calls Tryd.prog 27 #[.string s] w fun e w' => e = .returned (.tuple #[.int .i64 p, .int .i64 5]) ∧ Below w.heap.size w w' :=
  (check_any s w hs hT).mono fun _ _ h1 => ⟨h1.1.trans (by rw [chkE_none h]; rfl), h1.2⟩

/-- What Count answers. -/
def cntE (l : List UInt8) : Nat × Nat := match runesF l with | (some L, _) => (L.length, 0) | (none, _) => (0, 5)
theorem cntE_some {l : List UInt8} {L : List Nat} {e : Nat} (h : runesF l = (some L, e)) : cntE l = (L.length, 0) := by unfold cntE; rw [h]
theorem cntE_none {l : List UInt8} {p : Nat} (h : runesF l = (none, p)) : cntE l = (0, 5) := by unfold cntE; rw [h]

/-- The step of a range over a text at a rune. -/
theorem next_rune (w : World) (g : Nat) (s : ByteArray) (p n k : Nat) (ty : TypeId) (hk : w.heap[g]? = some (.stringIter s p)) (hp : p < s.size) (hd : decF (s.data.toList.drop p) = some (n, k)) :
    (Instr.next (.pointer (some ⟨g, 0, none⟩)) true ty).run Tryd.prog w = .ok (.tuple #[.bool true, .int .i64 p, .int .i32 n]) (w.iterAt g s (p + k)) := by
  have := Lib.run_next_any_at (P := Tryd.prog) w g s p ty hk hp
  rw [decode_drop s p hp, decR_some hd] at this
  exact this

end Go.Proofs.YtbfaaphijgmabaaDoor
