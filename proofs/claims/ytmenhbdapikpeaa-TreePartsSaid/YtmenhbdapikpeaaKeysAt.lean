/-
  Slices of keys; the closure by which their places are compared.
-/
import Derived.Test.YtmenhbdapikpeaaOrdKeysW
import Derived.Test.YtmenhbdapikpeaaSortMathG
import Derived.Test.YtmenhbdapikpeaaIdStep
import Derived.StillTailTactics
import Derived.Deep.QuietTactic
import Derived.BigQuiet
namespace Go.Proofs.Ytmenhbdapikpeaa
open Go.RowKit

/-- A slice value reads as these keys. -/
def KeysAt (w : World) (a : Option Addr) (n c : Nat) (K : List KeyV) : Prop :=
  K.length = n ∧ n ≤ c ∧ c ≤ 9223372036854775807 ∧ (∀ k ∈ K, k.c.length = 32) ∧ ((n = 0 ∧ c = 0) ∨ ∃ b off, a = some ⟨b, off, none⟩ ∧ ∀ j, j < n → w.rangeAt b (off + j * 34) (keyL (kOf K j)))
theorem KeysAt.some_ {w : World} {a : Option Addr} {n c : Nat} {K : List KeyV} (h : KeysAt w a n c K) (hn : 0 < n) : ∃ b off, a = some ⟨b, off, none⟩ := by
  rcases h.2.2.2.2 with ⟨h0, _⟩ | ⟨b, off, ha, _⟩
  · omega
  · exact ⟨b, off, ha⟩
theorem KeysAt.at_ {w : World} {b off n c : Nat} {K : List KeyV} (h : KeysAt w (some ⟨b, off, none⟩) n c K) (j : Nat) (hj : j < n) : w.rangeAt b (off + j * 34) (keyL (kOf K j)) := by
  rcases h.2.2.2.2 with ⟨h0, _⟩ | ⟨b', off', ha, hc⟩
  · omega
  · simp only [Option.some.injEq, Addr.mk.injEq, and_true] at ha
    obtain ⟨rfl, rfl⟩ := ha
    exact hc j hj
theorem KeysAt.below {w w' : World} {a : Option Addr} {n c : Nat} {K : List KeyV} (h : KeysAt w a n c K) (hb : Below w.heap.size w w') : KeysAt w' a n c K := by
  obtain ⟨h1, h2, h3, h5, h4⟩ := h
  refine ⟨h1, h2, h3, h5, ?_⟩
  rcases h4 with h4 | ⟨b, off, ha, hc⟩
  · exact .inl h4
  · exact .inr ⟨b, off, ha, fun j hj i v hv => (hb.cell (World.block_lt_of_cell? _ _ (hc j hj i v hv))).trans (hc j hj i v hv)⟩
theorem KeysAt.len32 {w : World} {a : Option Addr} {n c : Nat} {K : List KeyV} (h : KeysAt w a n c K) {j : Nat} (hj : j < n) : (kOf K j).c.length = 32 := by
  have h1 := h.1
  have hl : j < K.length := by omega
  have : kOf K j = K[j] := by unfold kOf; simp [hl]
  rw [this]
  exact h.2.2.2.1 _ (List.getElem_mem hl)

theorem infoKey : (Try.prog.info? 41).map (·.size) = some 34 := by kernel_rfl
theorem run_loadKey {w : World} {b off : Nat} {k : KeyV} (hl : k.c.length = 32) (hc : w.rangeAt b off (keyL k)) : (loadVar 41 ⟨b, off, none⟩).run Try.prog w = .ok (.agg (keyC k)) w :=
  run_loadVar_mid (P := Try.prog) w b off 41 (keyL k) _ hc Try.underlying41 rfl (by rw [keyL_length hl]; exact infoKey)
theorem exec_loadKey {w : World} {o : Oper} {a : Act} (x : Operand) (ho : o.op = .load 41 x) (b off : Nat) (k : KeyV) (hl : k.c.length = 32) (hx : a.eval x = .pointer (some ⟨b, off, none⟩)) (hc : w.rangeAt b off (keyL k)) :
    (execOp a.eval o).run Try.prog w = .ok (.value (.agg (keyC k))) w := by
  unfold execOp
  simp only [ho, hx, Instr.loadAt, Instr.sureAddr, Sem.run_bind, Sem.run_pure, Result.andThen_ok, run_loadKey hl hc]

theorem below_drewK {base : Nat} {w w' : World} (h : Below base w w') (n : Nat) : Below base w (w'.drewN n) := ⟨h.os, h.tape, h.output, h.size, h.block⟩
set_option maxRecDepth 100000 in
set_option maxHeartbeats 1000000 in
theorem placed_any (i j g : Nat) (a : Option Addr) (n c : Nat) (K : List KeyV) (w : World) (hK : KeysAt w a n c K) (hi : i < n) (hj : j < n) (hg : w.cell? ⟨g, 0, none⟩ = some (.slice a n c)) :
    Calls Try.prog 43 #[.int .i64 i, .int .i64 j, .pointer (some ⟨g, 0, none⟩)] w fun e w' => e = .returned (.int .i64 (keyF (kOf K i) (kOf K j))) ∧ Below w.heap.size w w' := by
  obtain ⟨b, o, rfl⟩ := hK.some_ (by omega)
  have hi0 : (0 : Int) ≤ (i : Int) := by omega
  have hiI : (i : Int) < (n : Int) := by omega
  have hj0 : (0 : Int) ≤ (j : Int) := by omega
  have hjI : (j : Int) < (n : Int) := by omega
  have H1 := Lib.hid (hK.len32 hi)
  have H2 := Lib.hid (hK.len32 hj)
  have HC1 := Lib.hid (show w.drew.rangeAt b (o + i * 34) (keyL (kOf K i)) from hK.at_ i hi)
  have HC2 := Lib.hid (show w.drew.rangeAt b (o + j * 34) (keyL (kOf K j)) from hK.at_ j hj)
  have HK := Lib.hid (fun W => keys_any (kOf K i) (kOf K j) W (hK.len32 hi) (hK.len32 hj))
  unfold KeyIs at HK
  clear hK
  go_enter Try.func43, Try.ntmps43
  go_wp2
  refine wp_region_still_tail 8 (by kernel_rfl) (by kernel_rfl) ?_
  simp only [List.take_succ_cons, List.take_zero, List.drop_succ_cons, List.drop_zero]
  still_step
  still_step
  still_step
  refine still_w (by rfl) (exec_loadKey _ rfl _ _ _ H1.out rfl HC1.out) ?_
  simp only [Act.put, List.setIfInBounds_toArray, List.set_cons_zero, List.set_cons_succ]
  still_step
  still_step
  still_step
  refine still_w (by rfl) (exec_loadKey _ rfl _ _ _ H2.out rfl HC2.out) ?_
  simp only [Act.put, List.setIfInBounds_toArray, List.set_cons_zero, List.set_cons_succ]
  refine wpStill_nil ?_
  change wpList _ _ _ _ _ w.drew
  go_wp2_with (go_at_call 20; (with_reducible refine (HK.out _).mono ?_); rintro e w1 ⟨rfl, hb1⟩)
  go_ret
  exact ⟨rfl, (below_drewK (Below.refl w.heap.size w) 1).trans hb1⟩
#print axioms placed_any
end Go.Proofs.Ytmenhbdapikpeaa
