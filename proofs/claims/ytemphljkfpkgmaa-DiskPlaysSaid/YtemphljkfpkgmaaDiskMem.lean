/-
  A disk in memory: where its parts lie (Mem), that they read as the plain disk (DiskAt), what an act may turn (Step, Chg).
-/
import Derived.Test.YtemphljkfpkgmaaDkMathAll
import Derived.Test.YtemphljkfpkgmaaDirMem
namespace Go.Proofs.Ytemphljkfpkgmaa
open Go.RowKit Go.Maps

/-- A pointer to a block's head. -/
abbrev Pt (k : Nat) : Value := .pointer (some ⟨k, 0, none⟩)
/-- An act as a function value, its captured variables in blocks of F. -/
def ActAt (F : Nat → Prop) (w : World) (bl : List Nat) (a : DAct) (v : Value) : Prop :=
  (a.src = [] ∧ a.dst ≠ [] ∧ a.dst.length ≤ 80 ∧ ∃ x y, F x ∧ F y ∧ v = .func (.func 33) #[] #[Pt x, Pt y] ∧ RowAt w x 68 [Pt (bl.getD a.file 0)] ∧ RowAt w y 9 [.string (strB a.dst)])
  ∨ (a.src ≠ [] ∧ a.dst ≠ [] ∧ a.src.length ≤ 80 ∧ a.dst.length ≤ 80 ∧ ∃ x y, F x ∧ F y ∧ v = .func (.func 43) #[] #[Pt x, Pt y] ∧ RowAt w x 9 [.string (strB a.src)] ∧ RowAt w y 9 [.string (strB a.dst)])
  ∨ (a.src ≠ [] ∧ a.dst = [] ∧ a.src.length ≤ 80 ∧ ∃ x, F x ∧ v = .func (.func 45) #[] #[Pt x] ∧ RowAt w x 9 [.string (strB a.src)])

/-- Where a disk's parts lie. -/
structure Mem where
  bf : Nat
  bk : Nat
  av : Value
  fs : List Value
  bl : List Nat
  vs : List Value
  used : Nat
  armed : Nat

def diskC (S : DS) (M : Mem) : List Value := [.int .i64 (S.quota : Int), .map (some M.bf), .map (some M.bk), M.av, .int .i64 (M.used : Int), .int .i64 (S.refused : Int), .int .i64 (M.armed : Int), .bool S.down]
def fileC (v : Value) (n : Nat) : List Value := [v, .int .i64 (n : Int)]

/-- The files' blocks alone. -/
structure FilesIn (F : Nat → Prop) (w : World) (files : List FileD) (bl : List Nat) (vs : List Value) : Prop where
  bls : bl.length = files.length
  vss : vs.length = files.length
  row : ∀ k, k < files.length → RowAt w (bl.getD k 0) 73 (fileC (vs.getD k undef) (files.getD k ([], 0)).2)
  own : ∀ k, k < files.length → Own w 0 (vs.getD k undef) (files.getD k ([], 0)).1
  once : bl.Nodup
  apart : ∀ i j, i < files.length → j < files.length → i ≠ j → Apart (vs.getD i undef) (vs.getD j undef)
  inF : ∀ k, k < files.length → F (bl.getD k 0) ∧ ∀ r, (vs.getD k undef).ownBlock = some r → F r
structure ActsIn (F : Nat → Prop) (w : World) (bl : List Nat) (acts : List DAct) (av : Value) (fs : List Value) : Prop where
  len : fs.length = acts.length
  own : w.ownsRow 0 75 1 av fs.length fs
  act : ∀ i, i < acts.length → ActAt F w bl (acts.getD i ⟨[], [], 0⟩) (fs.getD i undef)
  inF : ∀ r, av.ownBlock = some r → F r

structure DiskIn (F : Nat → Prop) (w : World) (db : Nat) (S : DS) (M : Mem) : Prop where
  row : RowAt w db 50 (diskC S M)
  files : FilesIn F w S.files M.bl M.vs
  acts : ActsIn F w M.bl S.acts M.av M.fs
  now : DirAt w M.bf M.bl S.now.length (look S.now)
  kept : DirAt w M.bk M.bl S.kept.length (look S.kept)
  two : M.bf ≠ M.bk
  arm : S.down = false → M.armed = S.arm
  armI : M.armed ≤ 9223372036854775807
  inF : F db ∧ F M.bf ∧ F M.bk
  lt : ∀ k, F k → k < w.heap.size

def DiskAt (F : Nat → Prop) (w : World) (db : Nat) (S : DS) : Prop := Inv S ∧ ∃ M, DiskIn F w db S M ∧ M.used = usedS S

/-- But for these blocks what there was is as it was. -/
structure Chg (X : Nat → Prop) (w w' : World) : Prop where
  os : w'.os = w.os
  tape : w'.tape = w.tape
  output : w'.output = w.output
  size : w.heap.size ≤ w'.heap.size
  block : ∀ k, k < w.heap.size → ¬ X k → w'.heap[k]? = w.heap[k]?
/-- What a call may have turned: blocks of F, and new ones; F' is F and new ones. -/
structure Step (F : Nat → Prop) (w w' : World) (F' : Nat → Prop) : Prop where
  chg : Chg F w w'
  more : ∀ k, F' k → F k ∨ w.heap.size ≤ k
  old : ∀ k, F k → F' k
/-- F and all that is new. -/
def Plus (F : Nat → Prop) (w w' : World) (k : Nat) : Prop := F k ∨ (w.heap.size ≤ k ∧ k < w'.heap.size)

section
variable {X Y F F' F'' : Nat → Prop} {w w' w'' : World}
theorem Chg.refl : Chg X w w := ⟨rfl, rfl, rfl, Nat.le_refl _, fun _ _ _ => rfl⟩
theorem Chg.trans (h : Chg X w w') (k : Chg X w' w'') : Chg X w w'' :=
  ⟨k.os.trans h.os, k.tape.trans h.tape, k.output.trans h.output, Nat.le_trans h.size k.size, fun i hi hX => (k.block i (Nat.lt_of_lt_of_le hi h.size) hX).trans (h.block i hi hX)⟩
theorem Chg.mono (h : Chg X w w') (hX : ∀ k, k < w.heap.size → X k → Y k) : Chg Y w w' := ⟨h.os, h.tape, h.output, h.size, fun k hk hY => h.block k hk (fun hx => hY (hX k hk hx))⟩
theorem Chg.alloc (h : Chg X w w') (o : Obj) : Chg X w (w'.alloc o) :=
  h.trans ⟨rfl, rfl, rfl, by simp, fun k hk _ => Below.heap_alloc _ _ _ hk⟩
theorem Chg.drew (h : Chg X w w') : Chg X w w'.drew := ⟨h.os, h.tape, h.output, h.size, h.block⟩
theorem Chg.drewN (h : Chg X w w') (q : Nat) : Chg X w (w'.drewN q) := by
  exact ⟨h.os, h.tape, h.output, h.size, h.block⟩
theorem Chg.setCell (h : Chg X w w') {a : Addr} (ha : X a.block ∨ w.heap.size ≤ a.block) (u : Value) : Chg X w (w'.setCell a u) := by
  refine ⟨h.os, h.tape, h.output, by simpa [World.setCell] using h.size, fun k hk hX => ?_⟩
  rw [Below.heap_setCell _ _ _ _ (fun e => by subst e; exact ha.elim hX (fun h' => by omega))]
  exact h.block k hk hX
theorem Chg.grown (h : Chg X w w') {row : Option Nat} (hg : w'.grownBy w'' row) (hr : ∀ k, row = some k → X k ∨ w.heap.size ≤ k) : Chg X w w'' := by
  refine ⟨hg.os.trans h.os, hg.tape.trans h.tape, hg.output.trans h.output, Nat.le_trans h.size hg.size, fun k hk hX => ?_⟩
  rw [hg.block k (Nat.lt_of_lt_of_le hk h.size) (fun e => (hr k e.symm).elim hX (fun h' => by omega))]
  exact h.block k hk hX
theorem Chg.below (h : Chg X w w') {B : Nat} (hF : ∀ k, X k → B ≤ k) (hB : B ≤ w.heap.size) : Below B w w' :=
  ⟨h.os, h.tape, h.output, h.size, fun k hk => h.block k (by omega) (fun hk' => by have := hF k hk'; omega)⟩
theorem Chg.of_below (h : Below w.heap.size w w') : Chg X w w' := ⟨h.os, h.tape, h.output, h.size, fun k hk _ => h.block k hk⟩
theorem Chg.belowN (h : Chg X w w') (hb : Below w'.heap.size w' w'') : Chg X w w'' := h.trans (Chg.of_below hb)
theorem Step.refl : Step F w w F := ⟨Chg.refl, fun _ h => .inl h, fun _ h => h⟩
theorem Step.trans (h : Step F w w' F') (k : Step F' w' w'' F'') : Step F w w'' F'' :=
  ⟨⟨k.chg.os.trans h.chg.os, k.chg.tape.trans h.chg.tape, k.chg.output.trans h.chg.output, Nat.le_trans h.chg.size k.chg.size, fun i hi hF => (k.chg.block i (Nat.lt_of_lt_of_le hi h.chg.size) (fun hF' => (h.more i hF').elim hF (fun hle => by omega))).trans (h.chg.block i hi hF)⟩,
   fun i hi => (k.more i hi).elim (fun h' => h.more i h') (fun h' => .inr (Nat.le_trans h.chg.size h')), fun i hi => k.old i (h.old i hi)⟩
theorem Step.below (h : Step F w w' F') {B : Nat} (hF : ∀ k, F k → B ≤ k) (hB : B ≤ w.heap.size) : Below B w w' := h.chg.below hF hB
theorem Step.from_ (h : Step F w w' F') {B : Nat} (hF : ∀ k, F k → B ≤ k) (hB : B ≤ w.heap.size) : ∀ k, F' k → B ≤ k := fun k hk => (h.more k hk).elim (hF k) (fun h' => by omega)
theorem Step.of_below (h : Below w.heap.size w w') : Step F w w' F := ⟨Chg.of_below h, fun _ h => .inl h, fun _ h => h⟩
theorem Step.plus (h : Chg F w w') : Step F w w' (Plus F w w') := ⟨h, fun _ hk => hk.imp id And.left, fun _ h => .inl h⟩

theorem ne_of_types {a b : Nat} {c1 c2 : Array Value} {T1 T2 : TypeId} {f1 f2 : Nat × Nat} (h1 : w.heap[a]? = some (.cells c1 T1 f1)) (h2 : w.heap[b]? = some (.cells c2 T2 f2)) (hT : T1 ≠ T2) : a ≠ b := by
  intro e; subst e; rw [h1] at h2; cases h2; exact hT rfl
theorem ne_map {a b n : Nat} {bl : List Nat} {g : Nm → Option Nat} {c1 : Array Value} {T1 : TypeId} {f1 : Nat × Nat} (h1 : w.heap[a]? = some (.cells c1 T1 f1)) (h2 : DirAt w b bl n g) : a ≠ b := by
  obtain ⟨D, ⟨es, clock, h3, _⟩, _⟩ := h2
  intro e; subst e; rw [h1] at h3; cases h3
theorem row_block {base : Nat} {e : TypeId} {size : Nat} {v : Value} {n : Nat} {xs : List Value} (h : w.ownsRow base e size v n xs) {r : Nat} (hr : v.ownBlock = some r) : ∃ cur, w.heap[r]? = some (.cells cur e (0, 0)) := by
  obtain ⟨h1, h2⟩ := h
  rcases h2 with ⟨rfl, _⟩ | ⟨g, cap, cur, rfl, hg, hh, _⟩
  · cases hr
  · cases hr; exact ⟨cur, hh⟩
theorem RowAt.same {g : Nat} {t : TypeId} {cs : List Value} (h : RowAt w g t cs) (hb : w'.heap[g]? = w.heap[g]?) : RowAt w' g t cs := by unfold RowAt; rw [hb]; exact h
theorem rowOwn_same {base : Nat} {e : TypeId} {size : Nat} {v : Value} {n : Nat} {xs : List Value} (h : w.ownsRow base e size v n xs) (hb : ∀ r, v.ownBlock = some r → w'.heap[r]? = w.heap[r]?) : w'.ownsRow base e size v n xs := by
  obtain ⟨h1, h2⟩ := h
  refine ⟨h1, ?_⟩
  rcases h2 with h2 | ⟨g, cap, cur, rfl, hg, hh, r⟩
  · exact .inl h2
  · exact .inr ⟨g, cap, cur, rfl, hg, (hb g rfl).trans hh, r⟩
theorem Own.same {base : Nat} {v : Value} {l : List UInt8} (h : Own w base v l) (hb : ∀ r, v.ownBlock = some r → w'.heap[r]? = w.heap[r]?) : Own w' base v l := rowOwn_same h hb
/-- A block that holds one of an act's variables. -/
def BoxB (w : World) (k : Nat) : Prop := ∃ cs, w.heap[k]? = some (.cells cs 68 (0, 0)) ∨ w.heap[k]? = some (.cells cs 9 (0, 0))
theorem ActAt.same {bl : List Nat} {a : DAct} {v : Value} (h : ActAt F w bl a v) (hF : ∀ k, F k → F' k) (hb : ∀ k, F k → BoxB w k → w'.heap[k]? = w.heap[k]?) : ActAt F' w' bl a v := by
  rcases h with ⟨h0, h1, h2, x, y, hx, hy, hv, c1, c2⟩ | ⟨h0, h1, h2, h3, x, y, hx, hy, hv, c1, c2⟩ | ⟨h0, h1, h2, x, hx, hv, c1⟩
  · exact .inl ⟨h0, h1, h2, x, y, hF x hx, hF y hy, hv, c1.same (hb x hx ⟨_, .inl c1⟩), c2.same (hb y hy ⟨_, .inr c2⟩)⟩
  · exact .inr (.inl ⟨h0, h1, h2, h3, x, y, hF x hx, hF y hy, hv, c1.same (hb x hx ⟨_, .inr c1⟩), c2.same (hb y hy ⟨_, .inr c2⟩)⟩)
  · exact .inr (.inr ⟨h0, h1, h2, x, hF x hx, hv, c1.same (hb x hx ⟨_, .inr c1⟩)⟩)
theorem ActAt.ids {bl bl' : List Nat} {a : DAct} {v : Value} (h : ActAt F w bl a v) (hb : bl'.getD a.file 0 = bl.getD a.file 0) : ActAt F w bl' a v := by
  rcases h with ⟨h0, h1, h2, x, y, hx, hy, hv, c1, c2⟩ | h
  · exact .inl ⟨h0, h1, h2, x, y, hx, hy, hv, by rw [hb]; exact c1, c2⟩
  · exact .inr h
theorem ActAt.one {bl : List Nat} {a : DAct} {v : Value} (h : ActAt F w bl a v) : v.oneCell' = true := by
  rcases h with ⟨_, _, _, x, y, _, _, rfl, _⟩ | ⟨_, _, _, _, x, y, _, _, rfl, _⟩ | ⟨_, _, _, x, _, rfl, _⟩ <;> rfl
variable {files files' : List FileD} {bl : List Nat} {vs vs' : List Value} {acts : List DAct} {av : Value} {fs : List Value} {db : Nat} {S : DS} {M : Mem}
/-- A block of the files', or a row of theirs. -/
def FileB (w : World) (k : Nat) : Prop := ∃ cs, w.heap[k]? = some (.cells cs 73 (0, 0)) ∨ w.heap[k]? = some (.cells cs 5 (0, 0))
theorem FilesIn.same (h : FilesIn F w files bl vs) (hF : ∀ k, F k → F' k) (hb : ∀ k, F k → FileB w k → w'.heap[k]? = w.heap[k]?) : FilesIn F' w' files bl vs :=
  ⟨h.bls, h.vss, fun k hk => (h.row k hk).same (hb _ (h.inF k hk).1 ⟨_, .inl (h.row k hk)⟩), fun k hk => (h.own k hk).same (fun r hr => hb _ ((h.inF k hk).2 r hr) (by obtain ⟨cur, hc⟩ := row_block (h.own k hk) hr; exact ⟨cur, .inr hc⟩)), h.once, h.apart, fun k hk => ⟨hF _ (h.inF k hk).1, fun r hr => hF _ ((h.inF k hk).2 r hr)⟩⟩
/-- One file has turned. -/
theorem FilesIn.upd (h : FilesIn F w files bl vs) (hF : ∀ k, F k → F' k) {k : Nat} (hk : k < files.length) {v' : Value} {x' : FileD} (hl : files'.length = files.length) (hf : ∀ i, files'.getD i ([], 0) = if i = k then x' else files.getD i ([], 0))
    (hvl : vs'.length = vs.length) (hv : ∀ i, vs'.getD i undef = if i = k then v' else vs.getD i undef)
    (hrow : RowAt w' (bl.getD k 0) 73 (fileC v' x'.2)) (hown : Own w' 0 v' x'.1) (hlt : ∀ k, F k → k < w.heap.size) (ht : ∀ r, v'.ownBlock = some r → F' r ∧ ((vs.getD k undef).ownBlock = some r ∨ w.heap.size ≤ r))
    (hb : ∀ r, r < w.heap.size → FileB w r → r ≠ bl.getD k 0 → (vs.getD k undef).ownBlock ≠ some r → w'.heap[r]? = w.heap[r]?) : FilesIn F' w' files' bl vs' := by
  have hne : ∀ i, i < files.length → i ≠ k → bl.getD i 0 ≠ bl.getD k 0 := by
    intro i hi hik e
    have h1 : i < bl.length := by rw [h.bls]; exact hi
    have h2 : k < bl.length := by rw [h.bls]; exact hk
    rw [List.getD_eq_getElem?_getD, List.getD_eq_getElem?_getD, List.getElem?_eq_getElem h1, List.getElem?_eq_getElem h2] at e
    simp only [Option.getD_some] at e
    exact hik ((List.getElem_inj h.once).1 e)
  have hro : ∀ i r, i < files.length → i ≠ k → (vs.getD i undef).ownBlock = some r → w'.heap[r]? = w.heap[r]? := by
    intro i r hi hik hr
    obtain ⟨cur, hc⟩ := row_block (h.own i hi) hr
    refine hb r (hlt r ((h.inF i hi).2 r hr)) ⟨cur, .inr hc⟩ (fun e => ?_) (h.apart i k hi hk hik r hr)
    have := h.row k hk
    exact ne_of_types hc this (by decide) e
  refine ⟨h.bls.trans hl.symm, hvl.trans (h.vss.trans hl.symm), fun i hi => ?_, fun i hi => ?_, h.once, fun i j hi hj hij => ?_, fun i hi => ?_⟩
  · rw [hl] at hi
    rw [hf, hv]
    by_cases e : i = k
    · subst e; rw [if_pos rfl, if_pos rfl]; exact hrow
    · rw [if_neg e, if_neg e]
      have h1 := h.row i hi
      refine h1.same (hb _ h1.lt ⟨_, .inl h1⟩ (hne i hi e) (fun e2 => ?_))
      obtain ⟨cur, hc⟩ := row_block (h.own k hk) e2
      exact ne_of_types h1 hc (by decide) rfl
  · rw [hl] at hi
    rw [hf, hv]
    by_cases e : i = k
    · subst e; rw [if_pos rfl, if_pos rfl]; exact hown
    · rw [if_neg e, if_neg e]
      exact (h.own i hi).same (fun r hr => hro i r hi e hr)
  · rw [hl] at hi hj
    rw [hv, hv]
    have key : ∀ i, i < files.length → i ≠ k → Apart (vs.getD i undef) v' := fun i hi hik r hr hr' => by
      rcases (ht r hr').2 with h1 | h1
      · exact h.apart i k hi hk hik r hr h1
      · have := hlt r ((h.inF i hi).2 r hr)
        omega
    by_cases e : i = k
    · subst e
      rw [if_pos rfl, if_neg (fun e => hij e.symm)]
      exact (key j hj (fun e => hij e.symm)).symm
    · rw [if_neg e]
      by_cases e2 : j = k
      · subst e2; rw [if_pos rfl]; exact key i hi hij
      · rw [if_neg e2]; exact h.apart i j hi hj hij
  · rw [hl] at hi
    refine ⟨hF _ (h.inF i hi).1, fun r hr => ?_⟩
    rw [hv] at hr
    by_cases e : i = k
    · rw [if_pos e] at hr; exact (ht r hr).1
    · rw [if_neg e] at hr; exact hF r ((h.inF i hi).2 r hr)
/-- A new file. -/
theorem FilesIn.more (h : FilesIn F w files bl vs) (hF : ∀ k, F k → F' k) (hlt : ∀ k, F k → k < w.heap.size) {b : Nat} (hb : w.heap.size ≤ b) (hFb : F' b) (hrow : RowAt w' b 73 (fileC (.slice none 0 0) 0)) (hs : ∀ k, k < w.heap.size → FileB w k → w'.heap[k]? = w.heap[k]?) :
    FilesIn F' w' (files ++ [([], 0)]) (bl ++ [b]) (vs ++ [.slice none 0 0]) := by
  have h1 := h.same (F' := F') (w' := w') hF (fun k hk hb => hs k (hlt k hk) hb)
  have gl : ∀ i, i < files.length → (bl ++ [b]).getD i 0 = bl.getD i 0 := fun i hi => by simp [List.getD_eq_getElem?_getD, List.getElem?_append_left (show i < bl.length by rw [h.bls]; exact hi)]
  have gv : ∀ i, i < files.length → (vs ++ [Value.slice none 0 0]).getD i undef = vs.getD i undef := fun i hi => by simp [List.getD_eq_getElem?_getD, List.getElem?_append_left (show i < vs.length by rw [h.vss]; exact hi)]
  have gf : ∀ i, i < files.length → (files ++ [(([], 0) : FileD)]).getD i ([], 0) = files.getD i ([], 0) := fun i hi => by simp [List.getD_eq_getElem?_getD, List.getElem?_append_left hi]
  have el : (bl ++ [b]).getD files.length 0 = b := by rw [← h.bls]; simp [List.getD_eq_getElem?_getD]
  have ev : (vs ++ [Value.slice none 0 0]).getD files.length undef = .slice none 0 0 := by rw [← h.vss]; simp [List.getD_eq_getElem?_getD]
  have ef : (files ++ [(([], 0) : FileD)]).getD files.length ([], 0) = ([], 0) := by simp [List.getD_eq_getElem?_getD]
  have split : ∀ i, i < (files ++ [(([], 0) : FileD)]).length → i < files.length ∨ i = files.length := fun i hi => by simp at hi; omega
  refine ⟨by simp [h.bls], by simp [h.vss], fun i hi => ?_, fun i hi => ?_, ?_, fun i j hi hj hij => ?_, fun i hi => ?_⟩
  · rcases split i hi with h2 | rfl
    · rw [gl i h2, gv i h2, gf i h2]; exact h1.row i h2
    · rw [el, ev, ef]; exact hrow
  · rcases split i hi with h2 | rfl
    · rw [gv i h2, gf i h2]; exact h1.own i h2
    · rw [ev, ef]; exact Own.nil _ _
  · refine List.nodup_append.2 ⟨h.once, (List.pairwise_singleton _ _), fun x hx y hy => ?_⟩
    obtain rfl := List.mem_singleton.1 hy
    obtain ⟨i, hi, rfl⟩ := List.mem_iff_getElem.1 hx
    have h3 : i < files.length := by rw [← h.bls]; exact hi
    have := hlt _ (h.inF i h3).1
    rw [List.getD_eq_getElem?_getD, List.getElem?_eq_getElem hi] at this
    simp only [Option.getD_some] at this
    omega
  · rcases split i hi with h2 | rfl <;> rcases split j hj with h3 | rfl
    · rw [gv i h2, gv j h3]; exact h.apart i j h2 h3 hij
    · rw [ev]; intro r _ hr; cases hr
    · rw [ev]; intro r hr; cases hr
    · exact absurd rfl hij
  · rcases split i hi with h2 | rfl
    · rw [gl i h2, gv i h2]; exact h1.inF i h2
    · rw [el, ev]; exact ⟨hFb, fun r hr => by cases hr⟩
theorem ActsIn.same (h : ActsIn F w bl acts av fs) (hF : ∀ k, F k → F' k) (hr : ∀ r, av.ownBlock = some r → w'.heap[r]? = w.heap[r]?) (hb : ∀ k, F k → BoxB w k → w'.heap[k]? = w.heap[k]?) : ActsIn F' w' bl acts av fs :=
  ⟨h.len, rowOwn_same h.own hr, fun i hi => (h.act i hi).same hF hb, fun r hr => hF r (h.inF r hr)⟩
theorem ActsIn.ids (h : ActsIn F w bl acts av fs) {bl' : List Nat} (hb : ∀ a ∈ acts, bl'.getD a.file 0 = bl.getD a.file 0) : ActsIn F w bl' acts av fs :=
  ⟨h.len, h.own, fun i hi => (h.act i hi).ids (hb _ (by rw [List.getD_eq_getElem?_getD, List.getElem?_eq_getElem hi]; exact List.getElem_mem _)), h.inF⟩
theorem ActsIn.none_ : ActsIn F w bl [] (.slice none 0 0) [] := ⟨rfl, World.ownsRow_nil _ _ _ _, fun i hi => by simp at hi, fun r hr => by cases hr⟩
/-- Nothing of the disk has turned. -/
theorem DiskIn.same (h : DiskIn F w db S M) (hs : w.heap.size ≤ w'.heap.size) (hb : ∀ k, F k → w'.heap[k]? = w.heap[k]?) : DiskIn F w' db S M :=
  ⟨h.row.same (hb _ h.inF.1), h.files.same (fun _ h => h) (fun k hk _ => hb k hk), h.acts.same (fun _ h => h) (fun r hr => hb r (h.acts.inF r hr)) (fun k hk _ => hb k hk), h.now.same (hb _ h.inF.2.1), h.kept.same (hb _ h.inF.2.2), h.two, h.arm, h.armI, h.inF, fun k hk => Nat.lt_of_lt_of_le (h.lt k hk) hs⟩
theorem DiskAt.same (h : DiskAt F w db S) (hs : w.heap.size ≤ w'.heap.size) (hb : ∀ k, F k → w'.heap[k]? = w.heap[k]?) : DiskAt F w' db S := by
  obtain ⟨h1, M, h2, h3⟩ := h
  exact ⟨h1, M, h2.same hs hb, h3⟩
theorem DiskAt.lt (h : DiskAt F w db S) : ∀ k, F k → k < w.heap.size := by obtain ⟨h1, M, h2, h3⟩ := h; exact h2.lt
theorem DiskAt.below (h : DiskAt F w db S) (hb : Below w.heap.size w w') : DiskAt F w' db S := h.same hb.size (fun k hk => hb.block k (h.lt k hk))
/-- A step of others. -/
theorem DiskAt.step {G G' : Nat → Prop} (h : DiskAt F w db S) (hs : Step G w w' G') (hd : ∀ k, F k → ¬ G k) : DiskAt F w' db S :=
  h.same hs.chg.size (fun k hk => hs.chg.block k (h.lt k hk) (hd k hk))
theorem DiskIn.facts (h : DiskIn F w db S M) : w.cell? ⟨db, 0, none⟩ = some (.int .i64 (S.quota : Int)) ∧ w.cell? ⟨db, 1, none⟩ = some (.map (some M.bf)) ∧ w.cell? ⟨db, 2, none⟩ = some (.map (some M.bk)) ∧ w.cell? ⟨db, 3, none⟩ = some M.av ∧ w.cell? ⟨db, 4, none⟩ = some (.int .i64 (M.used : Int)) ∧ w.cell? ⟨db, 5, none⟩ = some (.int .i64 (S.refused : Int)) ∧ w.cell? ⟨db, 6, none⟩ = some (.int .i64 (M.armed : Int)) ∧ w.cell? ⟨db, 7, none⟩ = some (.bool S.down) :=
  ⟨h.row.cell 0 rfl, h.row.cell 1 rfl, h.row.cell 2 rfl, h.row.cell 3 rfl, h.row.cell 4 rfl, h.row.cell 5 rfl, h.row.cell 6 rfl, h.row.cell 7 rfl⟩
/-- A block that a disk's row is not. -/
theorem DiskIn.db_box (h : DiskIn F w db S M) {k : Nat} (hk : BoxB w k) : k ≠ db := by
  obtain ⟨cs, hc | hc⟩ := hk
  · exact ne_of_types hc h.row (by decide)
  · exact ne_of_types hc h.row (by decide)
theorem DiskIn.db_file (h : DiskIn F w db S M) {k : Nat} (hk : FileB w k) : k ≠ db := by
  obtain ⟨cs, hc | hc⟩ := hk
  · exact ne_of_types hc h.row (by decide)
  · exact ne_of_types hc h.row (by decide)
theorem box_map {k b n : Nat} {bl : List Nat} {g : Nm → Option Nat} (hk : BoxB w k) (hd : DirAt w b bl n g) : k ≠ b := by
  obtain ⟨cs, hc | hc⟩ := hk <;> exact ne_map hc hd
theorem file_map {k b n : Nat} {bl : List Nat} {g : Nm → Option Nat} (hk : FileB w k) (hd : DirAt w b bl n g) : k ≠ b := by
  obtain ⟨cs, hc | hc⟩ := hk <;> exact ne_map hc hd
theorem DiskIn.av_box (h : DiskIn F w db S M) {k : Nat} (hk : BoxB w k) : M.av.ownBlock ≠ some k := by
  intro e
  obtain ⟨cur, hc⟩ := row_block h.acts.own e
  obtain ⟨cs, hc2 | hc2⟩ := hk
  · exact ne_of_types hc hc2 (by decide) rfl
  · exact ne_of_types hc hc2 (by decide) rfl
theorem DiskIn.av_file (h : DiskIn F w db S M) {k : Nat} (hk : FileB w k) : M.av.ownBlock ≠ some k := by
  intro e
  obtain ⟨cur, hc⟩ := row_block h.acts.own e
  obtain ⟨cs, hc2 | hc2⟩ := hk
  · exact ne_of_types hc hc2 (by decide) rfl
  · exact ne_of_types hc hc2 (by decide) rfl
theorem DiskIn.av_db (h : DiskIn F w db S M) : M.av.ownBlock ≠ some db := by
  intro e
  obtain ⟨cur, hc⟩ := row_block h.acts.own e
  exact ne_of_types hc h.row (by decide) rfl
theorem DiskIn.av_map (h : DiskIn F w db S M) {b n : Nat} {bl : List Nat} {g : Nm → Option Nat} (hd : DirAt w b bl n g) : M.av.ownBlock ≠ some b := by
  intro e
  obtain ⟨cur, hc⟩ := row_block h.acts.own e
  exact ne_map hc hd rfl
theorem DiskIn.db_map (h : DiskIn F w db S M) {b n : Nat} {bl : List Nat} {g : Nm → Option Nat} (hd : DirAt w b bl n g) : db ≠ b := ne_map h.row hd
theorem box_file {k r : Nat} (hk : BoxB w k) (hr : FileB w r) : k ≠ r := by
  obtain ⟨cs, hc | hc⟩ := hk <;> obtain ⟨cr, hr | hr⟩ := hr <;> exact ne_of_types hc hr (by decide)
end
#print axioms DiskAt.step
end Go.Proofs.Ytemphljkfpkgmaa
