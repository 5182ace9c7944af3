/-
  What DiskSynced plays, plainly: acts ahead, the file appended to and synced, pieces behind.
-/
import Derived.Test.YtmlnmjpohkjgbaaActs
namespace Go.Proofs.Ytmlnmjpohkjgbaa
open Go.RowKit Go.Maps

theorem total_do {S : DS} (h : Inv S) (x : ActV) : total (doS S x).files ≤ total S.files + x.b.length := by
  have h1 := Nat.le_add_right (total S.files) x.b.length
  unfold doS
  split
  · exact total_append _ _ _
  split
  · exact Nat.le_trans (total_sync _ _) h1
  split
  · exact Nat.le_trans (total_turn _ _ _ _) h1
  split
  · exact Nat.le_trans (total_turn _ _ _ _) h1
  split
  · exact h1
  split
  · exact Nat.le_trans (total_crash h _) h1
  · exact h1
theorem quota_do (S : DS) (x : ActV) : (doS S x).quota = S.quota := by
  unfold doS
  split
  · exact quota_append _ _ _
  split
  · exact quota_sync _ _
  split
  · exact quota_turn _ _ _ _
  split
  · exact quota_turn _ _ _ _
  split
  · rfl
  split
  · rfl
  · rfl
/-- Up again, and not armed. -/
def upS (S : DS) : DS := setArm (if S.down then crashS S [] else S) 0
theorem calm_up {S : DS} {q t : Nat} (h : Inv S) (hq : S.quota = q) (ht : total S.files ≤ t) : Calm (upS S) q t := by
  unfold upS
  cases hd : S.down
  · exact ⟨inv_setArm h 0, hd, rfl, hq, ht⟩
  · exact ⟨inv_setArm (inv_crash h []) 0, rfl, rfl, hq, Nat.le_trans (total_crash h []) ht⟩
theorem few_up {S : DS} {k : Nat} (h : Few S k) : Few (upS S) k := by
  unfold upS
  cases hd : S.down
  · exact few_setArm h 0
  · exact few_setArm (few_crash h []) 0
/-- A name that may not be: an answer, and it is no OK. -/
theorem append_bad {S : DS} {s : Nm} (hs : mayN s = false) (b : List UInt8) : (appendS S s b).2 ≠ 0 := by
  have hr : readyS S s s ≠ 0 := by unfold readyS; rw [hs]; cases S.down <;> simp
  unfold appendS
  rw [if_pos hr]
  exact hr
theorem append_ten {S : DS} {s : Nm} (hd : S.down = false) (hs : mayN s = false) (b : List UInt8) : appendS S s b = (S, 10) := by
  have hr : readyS S s s = 10 := by unfold readyS; rw [hd, hs]; rfl
  unfold appendS
  rw [hr, if_pos (by omega)]
theorem held_len {S : DS} {q t : Nat} {s : Nm} {was all : List UInt8} (hC : Calm S q t) (hH : HeldS S s was all) : all.length ≤ t := by
  obtain ⟨⟨k, n, _, _, h3, _⟩, _⟩ := hH
  have h1 := total_zero S.files k
  have h2 := hC.tot
  rw [List.getD_eq_getElem?_getD, h3] at h1
  simp only [Option.getD_some] at h1
  omega
section
variable {w W : World} {F : Nat → Prop} {db : Nat} {S S2 : DS} {z k : Nat}
theorem app_in {a : Option Addr} {n c : Nat} {b : List UInt8} (R : Run w W F db S) (hB : Bytes w a n c b) (hf : Few S k) (hk : k ≤ 1000000) (s : ByteArray) (hS : appendS S s.data.toList b = (S2, z)) :
    Calls Try.prog 22 #[Pt db, .string s, .slice a n c] W (RunEnd w db S2 (.int .i64 (z : Int))) := by
  have h := (append_any s a n c b R.1 (Nat.le_trans hf.dirs hk) (Nat.le_trans hf.refused hk) (fun W' hW' => bytes_run R hB hW')).mono fun _ _ he => run_end R he
  rw [hS] at h
  exact h
theorem sync_in (R : Run w W F db S) (hf : Few S k) (hk : k ≤ 1000000) (s : ByteArray) (hS : syncS S s.data.toList = (S2, z)) :
    Calls Try.prog 23 #[Pt db, .string s] W (RunEnd w db S2 (.int .i64 (z : Int))) := by
  have h := (sync_any s R.1 (Nat.le_trans hf.dirs hk)).mono fun _ _ he => run_end R he
  rw [hS] at h
  exact h
end
/-- A piece behind: to the file, and to the one beside. -/
theorem behind_step {S : DS} {q t : Nat} {s u : Nm} {was all : List UInt8} (hC : Calm S q t) (hH : HeldS S s was all) (hs : mayN s = true) (hu : mayN u = true) (b : List UInt8) (hq : t + b.length + b.length ≤ q) :
    Calm (appendS (appendS S s b).1 u b).1 q (t + b.length + b.length) ∧ HeldS (appendS (appendS S s b).1 u b).1 s was (if u = s then all ++ b ++ b else all ++ b) := by
  have e1 := append_calm hC hs b (by omega)
  rw [e1]
  have hC1 := calm_put hC hs b (by omega)
  have hH1 := held_put hC.inv hH hs b
  rw [if_pos rfl] at hH1
  have e2 := append_calm hC1 hu b (by omega)
  rw [e2]
  exact ⟨calm_put hC1 hu b (by omega), held_put hC1.inv hH1 hu b⟩
/-- Appended and synced: it is held. -/
theorem ahead_step {S : DS} {q t : Nat} {s : Nm} (hC : Calm S q t) (hs : mayN s = true) (b : List UInt8) (hq : t + b.length ≤ q) :
    (appendS S s b).2 = 0 ∧ (syncS (appendS S s b).1 s).2 = 0 ∧ ∃ was, HeldS (syncS (appendS S s b).1 s).1 s was was ∧ Calm (syncS (appendS S s b).1 s).1 q (t + b.length) ∧ readS (syncS (appendS S s b).1 s).1 s = (was, 0) := by
  have e1 := append_calm hC hs b (by omega)
  rw [e1]
  have hC1 := calm_put hC hs b (by omega)
  obtain ⟨k, hk⟩ := look_put (S := S) s b (may_ne hs)
  obtain ⟨was, h1, h2, h3, h4⟩ := held_sync hC1 hs hk
  refine ⟨rfl, ?_, was, ?_⟩
  · rw [h1]
  · rw [h1]; exact ⟨h2, h3, h4⟩
#print axioms ahead_step
end Go.Proofs.Ytmlnmjpohkjgbaa
