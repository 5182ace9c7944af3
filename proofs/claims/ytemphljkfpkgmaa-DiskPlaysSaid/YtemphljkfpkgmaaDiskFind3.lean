/-
  find, as the disk's calls use it; what they leave.
-/
import Derived.Test.YtemphljkfpkgmaaDiskApp
namespace Go.Proofs.Ytemphljkfpkgmaa
open Go.RowKit Go.Maps

/-- What an act of the disk leaves: an error's number, the disk behind it. -/
def DiskEnd (F : Nat → Prop) (w : World) (db : Nat) (r : DS × Nat) (e : Ending) (w' : World) : Prop :=
  e = .returned (.int .i64 (r.2 : Int)) ∧ ∃ F', Step F w w' F' ∧ DiskAt F' w' db r.1
theorem one_str (w : World) (s : ByteArray) : At1 St (w.alloc (.cells #[.string s] 9)) (some ⟨w.heap.size, 0, none⟩) 1 1 [s.data.toList] := by
  refine ⟨rfl, Nat.le_refl _, by omega, .inr ⟨_, _, rfl, fun j hj => ?_⟩⟩
  obtain rfl : j = 0 := by omega
  show _ = some (Value.string (strB s.data.toList))
  rw [strB_of]; simp
theorem two_str (w : World) (s t : ByteArray) : At1 St (w.alloc (.cells #[.string s, .string t] 9)) (some ⟨w.heap.size, 0, none⟩) 2 2 [s.data.toList, t.data.toList] := by
  refine ⟨rfl, Nat.le_refl _, by omega, .inr ⟨_, _, rfl, fun j hj => ?_⟩⟩
  rcases (show j = 0 ∨ j = 1 by omega) with rfl | rfl
  · show _ = some (Value.string (strB s.data.toList))
    rw [strB_of]; simp
  · show _ = some (Value.string (strB t.data.toList))
    rw [strB_of]; simp
theorem ready_eq (S : DS) (s : Nm) : readyS S s s = if S.down then 9 else if mayN s then 0 else 10 := by unfold readyS; rw [Bool.and_self]
theorem ptrOf_pt (bl : List Nat) (x : Option Nat) : ∃ o, ptrOf bl x = .pointer o := by cases x <;> exact ⟨_, rfl⟩
def findE (S : DS) (L : List Nm) : Nat := if S.down then 9 else if L.all mayN then (if (look S.now (L.getD 0 default)).isNone then 4 else 0) else 10
def findO (S : DS) (L : List Nm) : Option Nat := if S.down then none else if L.all mayN then look S.now (L.getD 0 default) else none

theorem find_disk {F : Nat → Prop} {W : World} {db : Nat} {S : DS} {M : Mem} (h : DiskIn F W db S M) (a : Option Addr) (n c : Nat) (L : List Nm) (hA : At1 St W a n c L) (hn : n ≤ 1000) (h0 : 0 < n) :
    Calls Try.prog 29 #[Pt db, .slice a n c] W fun e w' => e = .returned (.tuple #[ptrOf M.bl (findO S L), .int .i64 (findE S L : Nat)]) ∧ ∃ q, w' = W.drewN q := by
  obtain ⟨_, c1, _, _, _, _, _, c7⟩ := h.facts
  unfold findE findO
  cases hd : S.down with
  | true =>
    rw [hd] at c7
    exact (find_down db _ W c7).mono fun e w' ⟨h1, h2⟩ => ⟨h1, 0, h2.symm⟩
  | false =>
    rw [hd] at c7
    cases hm : L.all mayN with
    | false => exact (find_name db a n c L W c7 hA hn hm).mono fun e w' ⟨h1, h2⟩ => ⟨h1, 0, h2.symm⟩
    | true =>
      refine (find_any db M.bf S.now.length M.bl (look S.now) a n c L W c1 c7 h.now hA hn h0 hm _ rfl).mono fun e w' ⟨h1, h2⟩ => ⟨?_, h2⟩
      rw [h1]
      cases look S.now (L.getD 0 default) <;> rfl
section
variable {F : Nat → Prop} {w W : World} {db : Nat} {S : DS} {M : Mem}
/-- The disk in a world that has only more. -/
theorem DiskIn.later (h : DiskIn F w db S M) (hc : Chg (fun _ => False) w W) : DiskIn F W db S M := h.same hc.size (fun k hk => hc.block k (h.lt k hk) (fun e => e))
theorem DiskAt.later (h : DiskAt F w db S) (hc : Chg (fun _ => False) w W) : DiskAt F W db S := h.same hc.size (fun k hk => hc.block k (h.lt k hk) (fun e => e))
theorem chg_two {X Y : Nat → Prop} {W2 : World} (h : Chg X w W) (k : Chg Y W W2) (hY : ∀ k, k < w.heap.size → Y k → X k) : Chg X w W2 :=
  ⟨k.os.trans h.os, k.tape.trans h.tape, k.output.trans h.output, Nat.le_trans h.size k.size, fun j hj hX => (k.block j (Nat.lt_of_lt_of_le hj h.size) (fun e => hX (hY j hj e))).trans (h.block j hj hX)⟩
theorem Chg.never {X : Nat → Prop} (h : Chg (fun _ => False) w W) : Chg X w W := h.mono (fun _ _ e => e.elim)
theorem Bytes.later {a : Option Addr} {n c : Nat} {l : List UInt8} {X : Nat → Prop} (h : Bytes w a n c l) (hx : 0 < n → ∀ b off, a = some ⟨b, off, none⟩ → ¬ X b) (hc : Chg X w W) : Bytes W a n c l := by
  obtain ⟨h1, h2, h3, h4⟩ := h
  refine ⟨h1, h2, h3, ?_⟩
  rcases h4 with h4 | ⟨b, off, ha, hcl⟩
  · exact .inl h4
  · exact .inr ⟨b, off, ha, fun j hj => cell_same (hcl j hj) (hc.block b (World.block_lt_of_cell? _ _ (hcl j hj)) (hx (by omega) b off ha))⟩
end
#print axioms find_disk
end Go.Proofs.Ytemphljkfpkgmaa
