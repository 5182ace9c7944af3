/-
  Edits in memory; the closure that ends one.
-/
import Derived.Test.YtbfaaphijgmabaaDoorMyScript
import Derived.Test.YtbfaaphijgmabaaDoorUtfText
namespace Go.Proofs.YtbfaaphijgmabaaDoor
open Go.RowKit My

/-- An edit, its text as bytes. -/
structure EdV where
  k : Int
  d : Int
  s : List UInt8
instance : Inhabited EdV := ⟨⟨0, 0, []⟩⟩
abbrev edC (x : EdV) : List Value := [.int .i64 x.k, .int .i64 x.d, .string (strB x.s)]
theorem edC_one (x : EdV) : ∀ v ∈ edC x, v.oneCell' = true := fun v hv => by
  simp only [List.mem_cons, List.not_mem_nil, or_false] at hv
  rcases hv with rfl | rfl | rfl <;> rfl
def edK : Kind EdV := ⟨edC, 3, fun _ => True, by decide, fun _ _ => rfl, fun x _ v hv => edC_one x v hv⟩
theorem edInfo : (Tryd.prog.info? 39).map (fun i => (i.zero, i.size, i.bytes)) = some (some (.agg #[.int .i64 0, .int .i64 0, .string ByteArray.empty]), 3, 32) := by kernel_rfl
theorem infoEd : (Tryd.prog.info? 39).map (·.size) = some 3 := by kernel_rfl
theorem zeroEd (w : World) : (zeroValue 39).run Tryd.prog w = .ok (.agg (edC ⟨0, 0, []⟩).toArray) w := by kernel_rfl
def runeK : Kind Int := ⟨fun z => [.int .i32 z], 1, fun _ => True, by decide, fun _ _ => rfl, fun x _ v hv => by
  simp only [List.mem_cons, List.not_mem_nil, or_false] at hv
  rcases hv with rfl; rfl⟩
theorem flat_rune (L : List Int) : flatG runeK L = L.map R := by
  induction L with
  | nil => rfl
  | cons z L ih => show [Value.int .i32 z] ++ flatG runeK L = R z :: L.map R; rw [ih]; rfl
theorem OwnR.gen {w : World} {base : Nat} {v : Value} {L : List Int} (h : OwnR w base v L) : OwnG runeK 21 w base v L := ⟨by rw [flat_rune]; exact h, fun _ _ => trivial⟩
theorem OwnG.rune {w : World} {base : Nat} {v : Value} {L : List Int} (h : OwnG runeK 21 w base v L) : OwnR w base v L := by
  have := h.1
  rw [flat_rune] at this
  exact this
/-- The three boxes of edits, what they lead to. -/
structure EB (w : World) (base bl be ba : Nat) (la : Option Addr) (lc : Nat) (aa : Option Addr) (ac : Nat) (L : List EdV) (k d : Int) (A : List Int) (W : World) : Prop where
  below : Below w.heap.size w W
  size : base ≤ W.heap.size
  rl : RowAt W bl 31 [.slice la L.length lc]
  re : RowAt W be 39 (edC ⟨k, d, []⟩)
  ra : RowAt W ba 22 [.slice aa A.length ac]
  ol : OwnG edK 39 W base (.slice la L.length lc) L
  oa : OwnR W base (.slice aa A.length ac) A
  lt : w.heap.size ≤ bl ∧ w.heap.size ≤ be ∧ w.heap.size ≤ ba ∧ bl < base ∧ be < base ∧ ba < base ∧ bl ≠ be ∧ bl ≠ ba ∧ be ≠ ba
theorem OwnG.set {α : Type} {K : Kind α} {E : TypeId} {w : World} {base : Nat} {v : Value} {L : List α} (h : OwnG K E w base v L) {g : Nat} (hg : g < base) (o : Nat) (u : Value) : OwnG K E (w.setCell ⟨g, o, none⟩ u) base v L := OwnG.off h hg o u
theorem OwnG.low {α : Type} {K : Kind α} {E : TypeId} {w w' : World} {base : Nat} {v : Value} {L : List α} (h : OwnG K E w base v L) {g : Nat} (hg : g < base) (hgr : w.grownBy w' (some g)) : OwnG K E w' base v L := h.kept hgr (by
  cases hv : v.ownBlock with
  | none => exact .inl rfl
  | some k => exact .inr (fun e => by have e2 := Option.some.inj e; have := (h.lt k hv).1; omega))
section
variable {w : World} {base bl be ba : Nat} {la : Option Addr} {lc : Nat} {aa : Option Addr} {ac : Nat} {L : List EdV} {k d : Int} {A : List Int} {W W' : World}
theorem EB.on (h : EB w base bl be ba la lc aa ac L k d A W) (hb : Below W.heap.size W W') : EB w base bl be ba la lc aa ac L k d A W' :=
  ⟨h.below.trans (hb.mono h.below.size), by have := h.size; have := hb.size; omega, h.rl.below hb, h.re.below hb, h.ra.below hb, h.ol.below hb, h.oa.below hb, h.lt⟩
/-- The edit under way has other numbers. -/
theorem EB.edit (h : EB w base bl be ba la lc aa ac L k d A W) (o : Nat) (u : Value) (k' d' : Int) (he : (edC ⟨k, d, []⟩).set o u = edC ⟨k', d', []⟩) : EB w base bl be ba la lc aa ac L k' d' A (W.setCell ⟨be, o, none⟩ u) := by
  have hl := h.lt
  refine ⟨h.below.setCell (by show w.heap.size ≤ be; omega) _, by rw [show (W.setCell ⟨be, o, none⟩ u).heap.size = W.heap.size by simp [World.setCell]]; exact h.size, h.rl.other (show bl ≠ be by omega) _, ?_, h.ra.other (show ba ≠ be by omega) _, OwnG.off h.ol hl.2.2.2.2.1 _ _, (OwnG.off h.oa.gen hl.2.2.2.2.1 _ _).rune, hl⟩
  have := h.re.set o u
  rw [he] at this
  exact this
/-- The runes that are added have grown. -/
theorem EB.more (h : EB w base bl be ba la lc aa ac L k d A W) (hg : W.grownBy W' (Value.slice aa A.length ac).ownBlock) {A' : List Int} {aa' : Option Addr} {ac' : Nat} (ho : OwnR W' base (.slice aa' A'.length ac') A') : EB w base bl be ba la lc aa' ac' L k d A' (W'.setCell ⟨ba, 0, none⟩ (.slice aa' A'.length ac')) := by
  have hl := h.lt
  have hs := h.size
  have hown : ∀ k, (Value.slice aa A.length ac).ownBlock = some k → base ≤ k := fun k hk => h.oa.grown k hk
  have hne : ∀ b, b < base → some b ≠ (Value.slice aa A.length ac).ownBlock := fun b hb e => by have := hown b e.symm; omega
  have hol : OwnG edK 39 W' base (.slice la L.length lc) L := h.ol.kept hg (by
    cases hv : (Value.slice la L.length lc).ownBlock with
    | none => exact .inl rfl
    | some q =>
      refine .inr (fun e => ?_)
      obtain ⟨⟨_, o2⟩, _⟩ := h.ol
      obtain ⟨_, p2⟩ := h.oa
      rcases o2 with ⟨hv2, _⟩ | ⟨b, cap, cur, hv2, _, hh, _⟩
      · rw [hv2] at hv; cases hv
      · rcases p2 with ⟨hv3, _⟩ | ⟨b3, cap3, cur3, hv3, _, hh3, _⟩
        · rw [hv3] at e; cases e
        · rw [hv2] at hv; rw [hv3] at e
          cases hv; cases e
          rw [hh] at hh3
          simp only [Option.some.injEq, Obj.cells.injEq] at hh3
          exact absurd hh3.2.1 (by decide))
  refine ⟨(h.below.grown hg (by omega) (fun k hk => by have := hown k hk; omega)).setCell (by show w.heap.size ≤ ba; omega) _, by rw [show (W'.setCell ⟨ba, 0, none⟩ (.slice aa' A'.length ac')).heap.size = W'.heap.size by simp [World.setCell]]; have := hg.size; omega, (h.rl.grown hg (hne _ hl.2.2.2.1)).other (show bl ≠ ba by omega) _, (h.re.grown hg (hne _ hl.2.2.2.2.1)).other (show be ≠ ba by omega) _, ?_, OwnG.off hol hl.2.2.2.2.2.1 _ _, (OwnG.off ho.gen hl.2.2.2.2.2.1 _ _).rune, hl⟩
  exact (h.ra.grown hg (hne _ hl.2.2.2.2.2.1)).set 0 _
/-- Its text is put in. -/
theorem EB.mid (h : EB w base bl be ba la lc aa ac L k d A W) (t : List UInt8) :
    RowAt (W.setCell ⟨be, 2, none⟩ (.string (strB t))) bl 31 [.slice la L.length lc] ∧ RowAt (W.setCell ⟨be, 2, none⟩ (.string (strB t))) be 39 (edC ⟨k, d, t⟩) ∧ RowAt (W.setCell ⟨be, 2, none⟩ (.string (strB t))) ba 22 [.slice aa A.length ac] ∧
    OwnG edK 39 (W.setCell ⟨be, 2, none⟩ (.string (strB t))) base (.slice la L.length lc) L ∧ Below w.heap.size w (W.setCell ⟨be, 2, none⟩ (.string (strB t))) ∧ base ≤ (W.setCell ⟨be, 2, none⟩ (.string (strB t))).heap.size := by
  have hl := h.lt
  exact ⟨h.rl.other (show bl ≠ be by omega) _, h.re.set 2 _, h.ra.other (show ba ≠ be by omega) _, OwnG.off h.ol hl.2.2.2.2.1 _ _, h.below.setCell (by show w.heap.size ≤ be; omega) _, by rw [show (W.setCell ⟨be, 2, none⟩ (.string (strB t))).heap.size = W.heap.size by simp [World.setCell]]; exact h.size⟩
theorem EB.fin (h : EB w base bl be ba la lc aa ac L k d A W) (t : List UInt8) {n : Nat} (hHN : L.length = n) {a3 : Option Addr} {c3 : Nat} {w3 : World} {cs : Array Value} (ho : OwnG edK 39 w3 base (.slice a3 (n + 1) c3) (L ++ [⟨k, d, t⟩])) (hg : ((W.setCell ⟨be, 2, none⟩ (.string (strB t))).alloc (.cells cs 39)).grownBy w3 (Value.slice la n lc).ownBlock) :
    RowAt w3 bl 31 [.slice la L.length lc] ∧ RowAt (w3.setCell ⟨bl, 0, none⟩ (.slice a3 (n + 1) c3)) be 39 (edC ⟨k, d, t⟩) ∧ ∀ w4, RowAt w4 be 39 (edC ⟨0, 0, []⟩) → (w3.setCell ⟨bl, 0, none⟩ (.slice a3 (n + 1) c3)).grownBy w4 (some be) →
      w4.cell? ⟨ba, 0, none⟩ = some (.slice aa A.length ac) ∧ w4.frozen? ⟨ba, 0, none⟩ = false ∧ EB w base bl be ba a3 c3 none 0 (L ++ [⟨k, d, t⟩]) 0 0 [] (w4.setCell ⟨ba, 0, none⟩ (.slice none 0 0)) := by
  subst hHN
  obtain ⟨m1, m2, m3, m4, m5, m6⟩ := h.mid t
  have hl := h.lt
  obtain ⟨W2, hW2⟩ : ∃ x, W.setCell ⟨be, 2, none⟩ (.string (strB t)) = x := ⟨_, rfl⟩
  rw [hW2] at m1 m2 m3 m4 m5 m6 hg
  have hb : Below W2.heap.size W2 (W2.alloc (.cells cs 39)) := (Below.refl _ _).alloc (Nat.le_refl _) _
  have hown : ∀ k, (Value.slice la L.length lc).ownBlock = some k → base ≤ k := fun k hk => (m4.lt k hk).1
  have hne : ∀ b, b < base → some b ≠ (Value.slice la L.length lc).ownBlock := fun b hb e => by have := hown b e.symm; omega
  have r1 := (m1.below hb).grown hg (hne _ hl.2.2.2.1)
  have r2 := (m2.below hb).grown hg (hne _ hl.2.2.2.2.1)
  have r3 := (m3.below hb).grown hg (hne _ hl.2.2.2.2.2.1)
  have b3 : Below w.heap.size w w3 := (m5.trans (hb.mono m5.size)).grown hg (Nat.le_trans m5.size hb.size) (fun k hk => by have := hown k hk; omega)
  refine ⟨r1, r2.other (show be ≠ bl by omega) _, fun w4 hr4 hg4 => ?_⟩
  have q1 : RowAt w4 bl 31 [.slice a3 (L.length + 1) c3] := (r1.set 0 (.slice a3 (L.length + 1) c3)).grown hg4 (fun e => by have := Option.some.inj e; omega)
  have q3 : RowAt w4 ba 22 [.slice aa A.length ac] := (r3.other (show ba ≠ bl by omega) _).grown hg4 (fun e => by have := Option.some.inj e; omega)
  have b4 : Below w.heap.size w w4 := (show Below w.heap.size w (w3.setCell ⟨bl, 0, none⟩ (.slice a3 (L.length + 1) c3)) from b3.setCell (by show w.heap.size ≤ bl; omega) _).grown hg4 (by rw [show (w3.setCell ⟨bl, 0, none⟩ (.slice a3 (L.length + 1) c3)).heap.size = w3.heap.size by simp [World.setCell]]; exact b3.size) (fun k hk => by cases hk; omega)
  have o4 : OwnG edK 39 w4 base (.slice a3 (L.length + 1) c3) (L ++ [⟨k, d, t⟩]) := OwnG.low (OwnG.off ho hl.2.2.2.1 0 _) hl.2.2.2.2.1 hg4
  have z4 : base ≤ w4.heap.size := by
    have h1 := hg4.size
    have h2 := hg.size
    have h3 := hb.size
    rw [show (w3.setCell ⟨bl, 0, none⟩ (.slice a3 (L.length + 1) c3)).heap.size = w3.heap.size by simp [World.setCell]] at h1
    omega
  have el : (L ++ [(⟨k, d, t⟩ : EdV)]).length = L.length + 1 := by simp
  refine ⟨q3.cell 0 rfl, q3.free 0, ⟨b4.setCell (by show w.heap.size ≤ ba; omega) _, by rw [show (w4.setCell ⟨ba, 0, none⟩ (.slice none 0 0)).heap.size = w4.heap.size by simp [World.setCell]]; exact z4, by rw [el]; exact q1.other (show bl ≠ ba by omega) _, hr4.other (show be ≠ ba by omega) _, q3.set 0 _, by rw [el]; exact OwnG.off o4 hl.2.2.2.2.2.1 _ _, World.ownsRow_nil _ _ _ _, hl⟩⟩
end
theorem oneAt (w : World) (a : Addr) (u : Value) (x : EdV) : AtG edK ((w.setCell a u).alloc (.cells (edC x).toArray 39)) (some ⟨w.heap.size, 0, none⟩) 1 1 [x] := by
  have := oneG (K := edK) (w.setCell a u) x trivial 39 _ rfl
  rw [show (w.setCell a u).heap.size = w.heap.size by simp [World.setCell]] at this
  exact this
/-- What the closure leaves. -/
def EndIs (w : World) (base bl be ba : Nat) (L : List EdV) (e : Ending) (W : World) : Prop := e = .returned (.tuple #[]) ∧ ∃ la lc, EB w base bl be ba la lc none 0 L 0 0 [] W
set_option maxRecDepth 100000 in
set_option maxHeartbeats 4000000 in
theorem end_any (w : World) (base bl be ba : Nat) (la : Option Addr) (lc : Nat) (aa : Option Addr) (ac : Nat) (L : List EdV) (k d : Int) (A : List Int) (W : World) (h : EB w base bl be ba la lc aa ac L k d A W) (hv : OkTo A A.length) (hA : A.length ≤ 100000) (hL : L.length ≤ 100000) :
    Calls Tryd.prog 38 #[PtB ba, PtB be, PtB bl] W (EndIs w base bl be ba (L ++ [⟨k, d, txt A⟩])) := by
  have HE := Lib.hid h
  have HT := Lib.hid (text_any aa A.length ac A W h.oa.isRuns (by omega))
  rw [txtE_yes hv] at HT
  have HL := Lib.hid hL
  have c0 := h.ra.cell 0 rfl
  obtain ⟨n, hn⟩ : ∃ n, L.length = n := ⟨_, rfl⟩
  have HN := Lib.hid hn
  clear h hv hA hL
  go_enter Tryd.func38, Tryd.ntmps38
  go_wp2_with (first
    | (go_at_call 28; (with_reducible refine HT.out.mono ?_); rintro en w1 ⟨rfl, hb1⟩
       have E1 := Lib.hid (HE.out.on hb1)
       have e2 := E1.out.re.cell 2 rfl
       have f2 := E1.out.re.free 2
       have E2 := Lib.hid (E1.out.mid (txt A))
       have g0 := E2.out.1.cell 0 rfl
       have g1 := E2.out.2.1.cell 0 rfl
       have g2 := E2.out.2.1.cell 1 rfl
       have g3 := E2.out.2.1.cell 2 rfl
       rw [hn] at g0
       have H48 := Lib.hid (show (L.length + 1) * (32 + 1) ≤ 140737488355328 by have := HL.out; omega)
       have HR := Lib.hid (show n + 1 = L.length + 1 by rw [hn])
       have HO := Lib.hid (show OwnG edK 39 (w1.setCell ⟨be, 2, none⟩ (.string (strB (txt A)))) base (.slice la n lc) L from hn ▸ E2.out.2.2.2.1)
       have HS := Lib.hid E1.out.size
       have HAT := Lib.hid (oneAt w1 ⟨be, 2, none⟩ (.string (strB (txt A))) ⟨k, d, txt A⟩)
       clear hb1 c0 hn)
    | ((with_reducible show wpList _ _ _ (⟨some 12, _, _, _, _, _⟩ :: _) _ _); go_must (refine appG edK Tryd.underlying31 edInfo rfl rfl _ _ rfl base (.slice la n lc) L rfl (HO.out.alloc _) _ 1 1 [⟨k, d, txt A⟩] rfl HAT.out H48.out (by have := HS.out; simp; omega) (n + 1) HR.out ?_); intro a3 c3 w3 ho3 hg3
       have F3 := Lib.hid (E1.out.fin (txt A) (hHN := HN.out) ho3 hg3)
       have h0 := F3.out.1.cell 0 rfl
       have hf0 := F3.out.1.free 0
       clear ho3 hg3 e2 f2 g0 g1 g2 g3)
    | (refine store_row rfl 39 _ _ rfl be _ (edC ⟨k, d, txt A⟩) (edC ⟨0, 0, []⟩) rfl rfl F3.out.2.1 rfl infoEd (edC_one _) ?_; intro w4 hr4 hg4 _
       have F4 := Lib.hid (F3.out.2.2 w4 hr4 hg4)
       have i0 := F4.out.1
       have if0 := F4.out.2.1
       clear hr4 hg4 h0 hf0))
  go_wp2
  exact bodyPost_end (results_none rfl _ _ _) rfl ⟨rfl, a3, c3, F4.out.2.2⟩
#print axioms end_any
end Go.Proofs.YtbfaaphijgmabaaDoor
