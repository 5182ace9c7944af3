/-
  Plain facts on the bytes of a Hash: what one more copy into its rest makes of it.
-/
import Derived.Test.YtkjgcgdfofheeaaDoorShaHash
import Derived.Laws.CopyOwn
namespace Go.Proofs.YtkjgcgdfofheeaaDoor
open Go.RowKit

theorem stF_app (l m : List UInt8) (k : Nat) (h : 64 * k ≤ l.length) : stF (l ++ m) k = stF l k := by
  induction k with
  | zero => rfl
  | succ k ih =>
    rw [stF, stF, ih (by omega)]
    congr 1
    rw [List.drop_append_of_le_length (by omega), List.take_append_of_le_length (by rw [List.length_drop]; omega)]

theorem splice_take {α : Type} (rs x : List α) (held : Nat) (h : held + x.length ≤ rs.length) : (splice rs held x).take (held + x.length) = rs.take held ++ x := by
  unfold splice
  rw [← List.append_assoc, List.take_append_of_le_length (by simp; omega)]
  exact List.take_of_length_le (by simp; omega)

theorem splice_full {α : Type} (rs x : List α) (held : Nat) (h : held + x.length = rs.length) : splice rs held x = rs.take held ++ x := by
  unfold splice
  rw [h, List.drop_length, List.append_nil]

theorem rest_more (D x rs : List UInt8) (hrs : rs.length = 64) (ht : rs.take (D.length % 64) = D.drop (D.length / 64 * 64)) (h : D.length % 64 + x.length < 64) :
    (splice rs (D.length % 64) x).length = 64 ∧ (splice rs (D.length % 64) x).take ((D ++ x).length % 64) = (D ++ x).drop ((D ++ x).length / 64 * 64) ∧ stF (D ++ x) ((D ++ x).length / 64) = stF D (D.length / 64) := by
  have hl : (D ++ x).length = D.length + x.length := List.length_append
  have hm : (D ++ x).length % 64 = D.length % 64 + x.length := by rw [hl]; omega
  have hd : (D ++ x).length / 64 = D.length / 64 := by rw [hl]; omega
  refine ⟨by rw [length_splice _ _ _ (by omega)]; exact hrs, ?_, ?_⟩
  · rw [hm, hd, splice_take _ _ _ (by omega), ht, List.drop_append_of_le_length (by omega)]
  · rw [hd, stF_app _ _ _ (by omega)]

theorem rest_full (D x rs : List UInt8) (hrs : rs.length = 64) (ht : rs.take (D.length % 64) = D.drop (D.length / 64 * 64)) (h : D.length % 64 + x.length = 64) :
    (splice rs (D.length % 64) x).length = 64 ∧ (splice rs (D.length % 64) x).take ((D ++ x).length % 64) = (D ++ x).drop ((D ++ x).length / 64 * 64) ∧ stF (D ++ x) ((D ++ x).length / 64) = turnF (stF D (D.length / 64)) (splice rs (D.length % 64) x) := by
  have hl : (D ++ x).length = D.length + x.length := List.length_append
  have hm : (D ++ x).length % 64 = 0 := by rw [hl]; omega
  have hd : (D ++ x).length / 64 = D.length / 64 + 1 := by rw [hl]; omega
  have hs : splice rs (D.length % 64) x = ((D ++ x).drop (64 * (D.length / 64))).take 64 := by
    rw [splice_full _ _ _ (by omega), ht, Nat.mul_comm 64, List.drop_append_of_le_length (by omega)]
    exact (List.take_of_length_le (by simp; omega)).symm
  refine ⟨by rw [length_splice _ _ _ (by omega)]; exact hrs, ?_, ?_⟩
  · rw [hm, List.take_zero]
    exact (List.drop_of_length_le (by omega)).symm
  · rw [hd, stF, stF_app _ _ _ (by omega), ← hs]

theorem splice_hash (ws : List UInt32) (rs x : List UInt8) (n held : Nat) (hw : ws.length = 8) (hr : rs.length = 64) (h : held + x.length ≤ 64) :
    splice (hashV ws rs n) (8 + held) (bytesV x) = hashV ws (splice rs held x) n := by
  have h1 : (wordsV ws).length = 8 := by rw [wordsV_length, hw]
  have h2 : (bytesV rs).length = 64 := by rw [bytesV_length, hr]
  have hb : (bytesV x).length = x.length := bytesV_length x
  unfold splice hashV
  rw [hb, List.take_append, h1, List.take_of_length_le (by omega), show 8 + held - 8 = held from by omega, List.take_append_of_le_length (by omega)]
  rw [show 8 + held + x.length = 8 + (held + x.length) from by omega, ← h1, List.drop_length_add_append, List.drop_append_of_le_length (by omega)]
  simp [bytesV, List.map_take, List.map_drop]

theorem set_hash (ws : List UInt32) (rs : List UInt8) (n m : Nat) (hw : ws.length = 8) (hr : rs.length = 64) : (hashV ws rs n).set 72 (.int .i64 (m : Int)) = hashV ws rs m := by
  have h1 : (wordsV ws).length = 8 := by rw [wordsV_length, hw]
  have h2 : (bytesV rs).length = 64 := by rw [bytesV_length, hr]
  unfold hashV
  rw [List.set_append_right _ _ (by omega), h1, List.set_append_right _ _ (by omega), h2]
  rfl

theorem splice_words (ws ws' : List UInt32) (rs : List UInt8) (n : Nat) (hw : ws.length = 8) (hw' : ws'.length = 8) : splice (hashV ws rs n) 0 (wordsV ws') = hashV ws' rs n := by
  have h1 : (wordsV ws).length = 8 := by rw [wordsV_length, hw]
  have h2 : (wordsV ws').length = 8 := by rw [wordsV_length, hw']
  unfold splice hashV
  rw [List.take_zero, List.nil_append, Nat.zero_add, h2, ← h1, List.drop_left]

theorem hash_length (ws : List UInt32) (rs : List UInt8) (n : Nat) (hw : ws.length = 8) (hr : rs.length = 64) : (hashV ws rs n).length = 73 := by
  unfold hashV; rw [List.length_append, List.length_append, wordsV_length, bytesV_length, hw, hr]; rfl
theorem hash_more {w : World} {g : Nat} {D x rs rs2 : List UInt8} {ws : List UInt32} {L held k : Nat} (hL : L = D.length) (hh : held = L % 64) (hk : x.length = k) (hlt : held + k < 64) (hrs : rs.length = 64)
    (ht : rs.take held = D.drop (L / 64 * 64)) (h2 : rs2 = splice rs held x) (hws : ws = stF D (D.length / 64)) (hr : RowAt w g 48 (hashV ws rs2 L)) :
    HashOf (w.setCell ⟨g, 72, none⟩ (.int .i64 ((L : Int) + (k : Int)))) g (D ++ x) := by
  subst hL hh hk h2 hws
  obtain ⟨h3, h4, h5⟩ := rest_more D x rs hrs ht hlt
  refine ⟨_, h3, h4, ?_⟩
  have := hr.set 72 (.int .i64 (((D.length + x.length : Nat)) : Int))
  rw [set_hash _ _ _ _ (stF_length _ _) h3] at this
  rw [h5, List.length_append]
  rw [show (D.length : Int) + (x.length : Int) = ((D.length + x.length : Nat) : Int) from by omega]
  exact this

theorem hash_full {w : World} {g : Nat} {D x rs rs2 : List UInt8} {ws : List UInt32} {L held k : Nat} (hL : L = D.length) (hh : held = L % 64) (hk : x.length = k) (hlt : held + k = 64) (hrs : rs.length = 64)
    (ht : rs.take held = D.drop (L / 64 * 64)) (h2 : rs2 = splice rs held x) (hws : ws = stF D (D.length / 64)) (hr : RowAt w g 48 (hashV (turnF ws rs2) rs2 (L + k))) :
    HashOf w g (D ++ x) := by
  subst hL hh hk h2 hws
  obtain ⟨h3, h4, h5⟩ := rest_full D x rs hrs ht hlt
  refine ⟨_, h3, h4, ?_⟩
  rw [h5, List.length_append]
  exact hr
#print axioms rest_full
end Go.Proofs.YtkjgcgdfofheeaaDoor
