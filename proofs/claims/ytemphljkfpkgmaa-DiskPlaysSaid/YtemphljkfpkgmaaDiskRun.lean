/-
  A disk that a law plays with: its state beside what was there when the law began; each call, once more, in these words.
-/
import Derived.Test.YtemphljkfpkgmaaDiskCrash
namespace Go.Proofs.Ytemphljkfpkgmaa
open Go.RowKit Go.Maps

/-- A disk made since: its blocks are new; what was there stands. -/
def Run (w W : World) (F : Nat → Prop) (db : Nat) (S : DS) : Prop := DiskAt F W db S ∧ (∀ k, F k → w.heap.size ≤ k) ∧ Below w.heap.size w W
def RunEnd (w : World) (db : Nat) (S : DS) (v : Value) (e : Ending) (W : World) : Prop := e = .returned v ∧ ∃ F, Run w W F db S
section
variable {w W W' w2 : World} {F : Nat → Prop} {db : Nat} {S : DS}
theorem Run.later (R : Run w W F db S) (hW : Chg (fun _ => False) W W') : Run w W' F db S := ⟨R.1.later hW, R.2.1, R.2.2.trans (hW.below (fun _ e => e.elim) R.2.2.size)⟩
theorem Run.below (R : Run w W F db S) (hb : Below W.heap.size W W') : Run w W' F db S := R.later (Chg.of_below hb)
theorem Run.step {F2 : Nat → Prop} {S2 : DS} (R : Run w W F db S) (hs : Step F W w2 F2) (hd : DiskAt F2 w2 db S2) : Run w w2 F2 db S2 :=
  ⟨hd, hs.from_ R.2.1 R.2.2.size, R.2.2.trans (hs.below R.2.1 R.2.2.size)⟩
theorem run_end {r : DS × Nat} {e : Ending} (R : Run w W F db S) (h : DiskEnd F W db r e w2) : RunEnd w db r.1 (.int .i64 (r.2 : Int)) e w2 := by
  obtain ⟨h1, F2, hs, hd⟩ := h
  exact ⟨h1, F2, R.step hs hd⟩
theorem bytes_new (w : World) (l : List UInt8) (cs : Array Value) (fz : Nat × Nat) (n : Nat) (hn : l.length = n) (hcs : cs = (l.map B).toArray) (h63 : n ≤ 1000000) : Bytes (w.alloc (.cells cs 5 fz)) (some ⟨w.heap.size, 0, none⟩) n n l := by
  subst hcs
  refine ⟨hn, Nat.le_refl _, by omega, .inr ⟨_, _, rfl, fun j hj => ?_⟩⟩
  have : j < l.length := by omega
  rw [Nat.zero_add, cell_of_row (w.alloc (.cells (l.map B).toArray 5 fz)) w.heap.size j _ _ _ (heap_alloc_new w _)]
  simp [this, B]
theorem ints_new (w : World) (l : List Int) (cs : Array Value) (n : Nat) (hn : l.length = n) (hcs : cs = (l.map I).toArray) (h63 : n ≤ 1000000) : At1 I (w.alloc (.cells cs 3)) (some ⟨w.heap.size, 0, none⟩) n n l := by
  subst hcs
  refine ⟨hn, Nat.le_refl _, by omega, .inr ⟨_, _, rfl, fun j hj => ?_⟩⟩
  rw [Nat.zero_add, World.cell?_alloc_new]
  have : j < l.length := by omega
  simp [this]
theorem new_not (R : Run w W F db S) : ¬ F W.heap.size := fun e => by have := R.1.lt _ e; omega
theorem aw_app (R : Run w W F db S) (s : ByteArray) (l : List UInt8) (cs : Array Value) (fz : Nat × Nat) (n : Nat) (hn : l.length = n) (hcs : cs = (l.map B).toArray) (h63 : n ≤ 1000000) (h1 : S.kept.length + S.acts.length ≤ 1000000) (h2 : S.refused ≤ 1000000) {z : Int} (hz : ((appendS S s.data.toList l).2 : Int) = z) :
    Calls Try.prog 16 #[Pt db, .string s, .slice (some ⟨W.heap.size, 0, none⟩) n n] (W.alloc (.cells cs 5 fz)) (RunEnd w db (appendS S s.data.toList l).1 (.int .i64 z)) := by
  have hc : Chg (fun _ => False) W (W.alloc (.cells cs 5 fz)) := Chg.refl.alloc _
  refine (append_any s (some ⟨W.heap.size, 0, none⟩) n n l (R.1.later hc) h1 h2 (fun W' hW' => Bytes.later (bytes_new W l cs fz n hn hcs h63) (fun _ g off e hx => ?_) hW')).mono fun e w2 he => hz ▸ run_end (R.later hc) he
  cases e
  rcases hx with hx | hx
  · exact new_not R hx
  · have : (W.alloc (.cells cs 5 fz)).heap.size = W.heap.size + 1 := by simp
    omega
theorem aw_nil (R : Run w W F db S) (s : ByteArray) (h1 : S.kept.length + S.acts.length ≤ 1000000) (h2 : S.refused ≤ 1000000) {z : Int} (hz : ((appendS S s.data.toList []).2 : Int) = z) :
    Calls Try.prog 16 #[Pt db, .string s, .slice none 0 0] W (RunEnd w db (appendS S s.data.toList []).1 (.int .i64 z)) :=
  (append_any s none 0 0 [] R.1 h1 h2 (fun W' _ => Bytes.nil W')).mono fun _ _ he => hz ▸ run_end R he
theorem aw_sync (R : Run w W F db S) (s : ByteArray) (h1 : S.kept.length + S.acts.length ≤ 1000000) {z : Int} (hz : ((syncS S s.data.toList).2 : Int) = z) :
    Calls Try.prog 18 #[Pt db, .string s] W (RunEnd w db (syncS S s.data.toList).1 (.int .i64 z)) :=
  (sync_any s R.1 h1).mono fun _ _ he => hz ▸ run_end R he
theorem crash_run {e : Ending} {S2 : DS} (R : Run w W F db S) (h : CrashEnd F W db S2 e w2) : RunEnd w db S2 (.tuple #[]) e w2 := by
  obtain ⟨h1, F2, hs, hd⟩ := h
  exact ⟨h1, F2, R.step hs hd⟩
theorem aw_crash (R : Run w W F db S) (l : List Int) (cs : Array Value) (n : Nat) (hn : l.length = n) (hcs : cs = (l.map I).toArray) (h63 : n ≤ 1000000) (h1 : S.kept.length + S.acts.length ≤ 1000000) (hz : ∀ z ∈ l, -9223372036854775808 ≤ z ∧ z ≤ 9223372036854775807) :
    Calls Try.prog 26 #[Pt db, .slice (some ⟨W.heap.size, 0, none⟩) n n] (W.alloc (.cells cs 3)) (RunEnd w db (crashS S l) (.tuple #[])) := by
  have hc : Chg (fun _ => False) W (W.alloc (.cells cs 3)) := Chg.refl.alloc _
  exact (crash_any (some ⟨W.heap.size, 0, none⟩) n n l (R.1.later hc) h1 (ints_new W l cs n hn hcs h63) (fun _ g off e hx => by cases e; exact new_not R hx) hz).mono fun e w2 he => crash_run (R.later hc) he
/-- What is read. -/
def ReadRun (w : World) (db : Nat) (S : DS) (r : List UInt8 × Nat) (e : Ending) (W : World) : Prop := ∃ a n c F, e = .returned (.tuple #[.slice a n c, .int .i64 (r.2 : Int)]) ∧ Bytes W a n c r.1 ∧ Run w W F db S ∧ ∀ g off, 0 < n → a = some ⟨g, off, none⟩ → ¬ F g
theorem aw_read (R : Run w W F db S) (s : ByteArray) {r : List UInt8 × Nat} (hr : readS S s.data.toList = r) : Calls Try.prog 23 #[Pt db, .string s] W (ReadRun w db S r) :=
  (read_any s R.1).mono fun e w2 he => by
    subst hr
    obtain ⟨a, n, c, h1, h2, h3⟩ := he
    exact ⟨a, n, c, F, h1, h2.isBytes, R.below h3, fun g off hn e hF => by
      have h4 := h2.grown g (by rw [e]; rfl)
      have := R.1.lt g hF
      omega⟩
theorem aw_new (hb : Below w.heap.size w W) (z : Int) (q : Nat) (hz : z = (q : Int)) (hq : q ≤ 1073741824) : Calls Try.prog 5 #[.int .i64 z] W fun e W2 => ∃ db, RunEnd w db (newS q) (Pt db) e W2 :=
  hz ▸ (new_any q W hq).mono fun e W2 he => by
    obtain ⟨db, F, h1, h2, h3, h4⟩ := he
    exact ⟨db, h1, F, h2, fun k hk => Nat.le_trans hb.size (h3 k hk), hb.trans (h4.mono hb.size)⟩
end
#print axioms aw_app
end Go.Proofs.Ytemphljkfpkgmaa
