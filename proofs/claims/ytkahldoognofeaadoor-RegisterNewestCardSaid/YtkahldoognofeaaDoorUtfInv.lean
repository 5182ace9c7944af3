/-
  How far a text has been read: plain facts.
-/
import Derived.Test.YtkahldoognofeaaDoorUtfDec
namespace Go.Proofs.YtkahldoognofeaaDoor

/-- So far these runes stand there, and so many bytes are read. -/
def Inv (l : List UInt8) (p : Nat) (acc : List Nat) : Prop := runesF l = runesGo l.length p acc (l.drop p)

theorem Inv.start (l : List UInt8) : Inv l 0 [] := by unfold Inv runesF; rw [List.drop_zero]
theorem Inv.step {l : List UInt8} {p n k : Nat} {acc : List Nat} (h : Inv l p acc) (hd : decF (l.drop p) = some (n, k)) : Inv l (p + k) (acc ++ [n]) := by
  unfold Inv at h ⊢
  rw [h, runesGo_step (by simp) hd, List.drop_drop]
theorem Inv.stop {l : List UInt8} {p : Nat} {acc : List Nat} (h : Inv l p acc) (hp : p < l.length) (hd : decF (l.drop p) = none) : runesF l = (none, p) := by
  unfold Inv at h
  rw [h, runesGo_stop (fun e => by have := congrArg List.length e; simp at this; omega) hd]
theorem Inv.done {l : List UInt8} {p : Nat} {acc : List Nat} (h : Inv l p acc) (hp : l.length ≤ p) : runesF l = (some acc, p) := by
  unfold Inv at h
  rw [h, List.drop_eq_nil_of_le hp, runesGo_nil]
theorem Inv.more {l L : List Nat} {s : List UInt8} {p e : Nat} (h : Inv s p l) (hs : runesF s = (some L, e)) (hp : p < s.length) : ∃ n k, decF (s.drop p) = some (n, k) := by
  cases hd : decF (s.drop p) with
  | none => rw [h.stop hp hd] at hs; simp at hs
  | some q => exact ⟨q.1, q.2, rfl⟩

/-- As many runes as have been read are the first of all. -/
theorem Inv.pre {s : List UInt8} {p e : Nat} {acc L : List Nat} (h : Inv s p acc) (hs : runesF s = (some L, e)) : ∃ m, L = acc ++ m := by
  unfold Inv at h
  rw [hs] at h
  obtain ⟨m, hm, _⟩ := runesGo_some _ _ _ _ _ _ h.symm
  exact ⟨m, hm⟩

/-- What Check answers. -/
def chkE (l : List UInt8) : Nat × Nat := match runesF l with | (some _, _) => (0, 0) | (none, p) => (p, 5)
theorem chkE_some {l : List UInt8} {L : List Nat} {e : Nat} (h : runesF l = (some L, e)) : chkE l = (0, 0) := by unfold chkE; rw [h]
theorem chkE_none {l : List UInt8} {p : Nat} (h : runesF l = (none, p)) : chkE l = (p, 5) := by unfold chkE; rw [h]
theorem runesF_cases (l : List UInt8) : (∃ L, runesF l = (some L, l.length)) ∨ ∃ p, runesF l = (none, p) := by
  rcases h : runesF l with ⟨_ | L, e⟩
  · exact .inr ⟨e, rfl⟩
  · have := (runesF_some h).2.2
    subst this
    exact .inl ⟨L, rfl⟩
theorem runesF_len {l : List UInt8} {L : List Nat} {e : Nat} (h : runesF l = (some L, e)) : L.length ≤ l.length := by
  obtain ⟨hm, hl, _⟩ := runesF_some h
  rw [hl]
  clear h hl
  induction L with
  | nil => simp
  | cons n L ih =>
    have e1 : textF (n :: L) = encF n ++ textF L := rfl
    rw [e1, List.length_append, List.length_cons]
    have := encF_pos n
    have := ih (fun x hx => hm x (by simp [hx]))
    omega
#print axioms runesF_len
end Go.Proofs.YtkahldoognofeaaDoor
