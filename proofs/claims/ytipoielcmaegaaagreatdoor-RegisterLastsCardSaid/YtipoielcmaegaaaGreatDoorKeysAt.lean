/-
  Slices of keys; the closure by which their places are compared.
-/
import Derived.Test.YtipoielcmaegaaaGreatDoorOrdAll
import Derived.Test.YtipoielcmaegaaaGreatDoorSortMathG
import Derived.Test.YtipoielcmaegaaaGreatDoorIdStep
import Derived.StillTailTactics
import Derived.Deep.QuietTactic
import Derived.BigQuiet
namespace Go.Proofs.YtipoielcmaegaaaGreatDoor
open Go.RowKit

/-- A slice value reads as these keys. -/
def KeysAt (w : World) (a : Option Addr) (n c : Nat) (K : List KeyV) : Prop :=
  K.length = n ∧ n ≤ c ∧ c ≤ 9223372036854775807 ∧ (∀ k ∈ K, k.c.length = 32) ∧ ((n = 0 ∧ c = 0) ∨ ∃ b off, a = some ⟨b, off, none⟩ ∧ ∀ j, j < n → w.rangeAt b (off + j * 34) (keyL (kOf K j)))
theorem KeysAt.some_ {w : World} {a : Option Addr} {n c : Nat} {K : List KeyV} (h : KeysAt w a n c K) (hn : 0 < n) : ∃ b off, a = some ⟨b, off, none⟩ := by
  rcases h.2.2.2.2 with ⟨h0, _⟩ | ⟨b, off, ha, _⟩
  · omega
  · exact ⟨b, off, ha⟩
theorem KeysAt.at_ {w : World} {b off n c : Nat} {K : List KeyV} (h : KeysAt w (some ⟨b, off, none⟩) n c K) (j : Nat) (hj : j < n) : w.rangeAt b (off + j * 34) (keyL (kOf K j)) := by
  rcases h.2.2.2.2 with ⟨h0, _⟩ | ⟨b', off', ha, hc⟩
  · omega
  · simp only [Option.some.injEq, Addr.mk.injEq, and_true] at ha
    obtain ⟨rfl, rfl⟩ := ha
    exact hc j hj
theorem KeysAt.below {w w' : World} {a : Option Addr} {n c : Nat} {K : List KeyV} (h : KeysAt w a n c K) (hb : Below w.heap.size w w') : KeysAt w' a n c K := by
  obtain ⟨h1, h2, h3, h5, h4⟩ := h
  refine ⟨h1, h2, h3, h5, ?_⟩
  rcases h4 with h4 | ⟨b, off, ha, hc⟩
  · exact .inl h4
  · exact .inr ⟨b, off, ha, fun j hj i v hv => (hb.cell (World.block_lt_of_cell? _ _ (hc j hj i v hv))).trans (hc j hj i v hv)⟩
theorem KeysAt.len32 {w : World} {a : Option Addr} {n c : Nat} {K : List KeyV} (h : KeysAt w a n c K) {j : Nat} (hj : j < n) : (kOf K j).c.length = 32 := by
  have h1 := h.1
  have hl : j < K.length := by omega
  have : kOf K j = K[j] := by unfold kOf; simp [hl]
  rw [this]
  exact h.2.2.2.1 _ (List.getElem_mem hl)

theorem infoKey : (Tryz.prog.info? 35).map (·.size) = some 34 := by kernel_rfl
theorem run_loadKey {w : World} {b off : Nat} {k : KeyV} (hl : k.c.length = 32) (hc : w.rangeAt b off (keyL k)) : (loadVar 35 ⟨b, off, none⟩).run Tryz.prog w = .ok (.agg (keyC k)) w :=
  run_loadVar_mid (P := Tryz.prog) w b off 35 (keyL k) _ hc Tryz.underlying35 rfl (by rw [keyL_length hl]; exact infoKey)
theorem exec_loadKey {w : World} {o : Oper} {a : Act} (x : Operand) (ho : o.op = .load 35 x) (b off : Nat) (k : KeyV) (hl : k.c.length = 32) (hx : a.eval x = .pointer (some ⟨b, off, none⟩)) (hc : w.rangeAt b off (keyL k)) :
    (execOp a.eval o).run Tryz.prog w = .ok (.value (.agg (keyC k))) w := by
  unfold execOp
  simp only [ho, hx, Instr.loadAt, Instr.sureAddr, Sem.run_bind, Sem.run_pure, Result.andThen_ok, run_loadKey hl hc]

theorem below_drewK {base : Nat} {w w' : World} (h : Below base w w') (n : Nat) : Below base w (w'.drewN n) := ⟨h.os, h.tape, h.output, h.size, h.block⟩
end Go.Proofs.YtipoielcmaegaaaGreatDoor
