/-
  The script walked.
-/
import Derived.Test.YtfoalaoanpbmeaaDoorMyListW
namespace Go.Proofs.YtfoalaoanpbmeaaDoor
open Go.RowKit Go.Maps My

/-- Moves as bytes. -/
def mvB (l : List Int) : List UInt8 := l.map fun z => UInt8.ofNat z.toNat
/-- What the script hands back. -/
def ScrIs (l : List Int) (w : World) (e : Ending) (w' : World) : Prop := ∃ a c, e = .returned (.slice a l.length c) ∧ Own w' w.heap.size (.slice a l.length c) (mvB l) ∧ Below w.heap.size w w'
/-- Midway: where the script is. -/
structure Scr (A B : List Int) (x y ed : Nat) : Prop where
  xn : x ≤ A.length
  ym : y ≤ B.length
  free : Free (eq2 A B) A.length B.length x ((x : Int) - y)
  cost : cst (eq2 A B) x y = ed
  le : ed ≤ dist A B
theorem Scr.pt {A B : List Int} {x y ed : Nat} (h : Scr A B x y ed) : Pt A.length B.length x ((x : Int) - y) := ⟨by omega, by have := h.xn; omega, by omega, by have := h.ym; omega⟩
theorem Scr.cd {A B : List Int} {x y ed : Nat} (h : Scr A B x y ed) : cd (eq2 A B) x ((x : Int) - y) = ed := by
  unfold My.cd
  have e1 : ((x : Nat) : Int).toNat = x := by omega
  have e2 : ((x : Int) - (x - y)).toNat = y := by omega
  rw [e1, e2]; exact h.cost
theorem Scr.start (A B : List Int) : Scr A B A.length B.length (dist A B) := ⟨Nat.le_refl _, Nat.le_refl _, free_start, rfl, Nat.le_refl _⟩
theorem Scr.keep {A B : List Int} {x y ed : Nat} (h : Scr A B (x + 1) (y + 1) ed) (he : eq2 A B x y = true) : Scr A B x y ed := by
  have hc := cst_yes he
  have h1 := h.xn; have h2 := h.ym
  have hcost : cst (eq2 A B) x y = ed := hc ▸ h.cost
  have hp : Pt A.length B.length x ((x : Int) - y) := ⟨by omega, by omega, by omega, by omega⟩
  have e0 : ((x + 1 : Nat) : Int) - ((y + 1 : Nat) : Int) = (x : Int) - y := by omega
  refine ⟨by omega, by omega, ?_, hcost, h.le⟩
  have hf := h.free
  rw [e0] at hf
  refine free_step hf hp (.inl rfl) ?_
  have h3 := h.cd
  rw [e0] at h3
  rw [h3]
  unfold My.cd
  have e1 : ((x : Nat) : Int).toNat = x := by omega
  have e2 : ((x : Int) - (x - y)).toNat = y := by omega
  rw [e1, e2, hcost]; exact Nat.le_refl _
theorem Scr.drop {A B : List Int} {x y ed : Nat} (h : Scr A B (x + 1) y ed) (hc : cst (eq2 A B) x y + 1 = ed) : Scr A B x y (ed - 1) := by
  have h1 := h.xn; have h2 := h.ym
  have hp : Pt A.length B.length x ((x : Int) - y) := ⟨by omega, by omega, by omega, by omega⟩
  refine ⟨by omega, by omega, free_step h.free hp (.inr (.inl (by omega))) ?_, by omega, by have := h.le; omega⟩
  rw [h.cd]
  unfold My.cd
  have e1 : ((x : Nat) : Int).toNat = x := by omega
  have e2 : ((x : Int) - (x - y)).toNat = y := by omega
  rw [e1, e2]; omega
theorem Scr.add {A B : List Int} {x y ed : Nat} (h : Scr A B x (y + 1) ed) (hc : cst (eq2 A B) x y + 1 = ed) : Scr A B x y (ed - 1) := by
  have h1 := h.xn; have h2 := h.ym
  have hp : Pt A.length B.length x ((x : Int) - y) := ⟨by omega, by omega, by omega, by omega⟩
  refine ⟨by omega, by omega, free_step h.free hp (.inr (.inr (by omega))) ?_, by omega, by have := h.le; omega⟩
  rw [h.cd]
  unfold My.cd
  have e1 : ((x : Nat) : Int).toNat = x := by omega
  have e2 : ((x : Int) - (x - y)).toNat = y := by omega
  rw [e1, e2]; omega
/-- What the list answers. -/
theorem Scr.ask {A B : List Int} {x y ed : Nat} (h : Scr A B (x + 1) y (ed + 1)) {low : Int} {l : List Int} (hG : My.Good (eq2 A B) A.length B.length ed low l) {X Y : Int} (hC : Comp (eq2 A B) A.length B.length ed low l X Y) (hX : X ≤ ((x + 1 : Nat) : Int) - y - 1) (hY : ((x + 1 : Nat) : Int) - y - 1 ≤ Y) :
    reachF low l x y = decide (cst (eq2 A B) x y ≤ ed) := by
  have := My.ask hG hC h.pt h.free h.cd hX hY (by omega)
  rw [show ((x + 1 : Nat) : Int) - 1 = (x : Int) by omega, show ((x + 1 : Nat) : Int) - (((x + 1 : Nat) : Int) - y) = (y : Int) by omega] at this
  rw [this]
  unfold My.cd
  have e1 : ((x : Nat) : Int).toNat = x := by omega
  have e2 : ((x : Int) - (((x + 1 : Nat) : Int) - y - 1)).toNat = y := by omega
  rw [e1, e2]
/-- The moves of the program's own. -/
structure Mvs (W : World) (base : Nat) (a : Option Addr) (c : Nat) (l : List Int) : Prop where
  own : Own W base (.slice a l.length c) (mvB l)
theorem Mvs.chg {W W' : World} {base g : Nat} {a : Option Addr} {c : Nat} {l : List Int} (h : Mvs W base a c l) (hc : Chg8 g W W') (hg : g < base) : Mvs W' base a c l := by
  obtain ⟨⟨h1, h2⟩⟩ := h
  refine ⟨h1, ?_⟩
  rcases h2 with h2 | ⟨b, cap, cur, hv, hb, hh, r⟩
  · exact .inl h2
  · refine .inr ⟨b, cap, cur, hv, hb, ?_, r⟩
    have hlt : b < W.heap.size := by
      rcases Nat.lt_or_ge b W.heap.size with h | h
      · exact h
      · rw [Array.getElem?_eq_none h] at hh; cases hh
    rw [hc.block b hlt (by omega) (fun cur' fr e => by
      rw [hh] at e
      simp only [Option.some.injEq, Obj.cells.injEq] at e
      exact absurd e.2.1 (by decide))]
    exact hh
theorem mvs_app {w : World} {base : Nat} {v : Value} {l : List Int} {k : UInt8} {z : Int} (h : Own w base v (mvB l ++ [k])) (hk : k = UInt8.ofNat z.toNat) : ∃ a c, v = .slice a (l ++ [z]).length c ∧ Mvs w base a c (l ++ [z]) := by
  obtain ⟨a, n, c, rfl, hb⟩ := h.bytes
  have hn : n = (l ++ [z]).length := by
    have := hb.1
    rw [← this]; simp [mvB]
  subst hn
  refine ⟨a, c, rfl, ⟨?_⟩⟩
  have e : mvB (l ++ [z]) = mvB l ++ [k] := by rw [hk]; simp [mvB]
  rw [e]; exact h
theorem Rdy.move {AL : List LV} {f e0 : Nat} {c0 q q' : Int} {ed ed' : Nat} (h : Rdy AL f e0 c0 q ed) (he : ed = ed' + 1) (h1 : q' ≤ q + 1) (h2 : q ≤ q' + 1) : Rdy AL f e0 c0 q' ed' := by
  obtain ⟨r1, r2, r3, r4, r5, r6, r7⟩ := h
  exact ⟨r1, r2, r3, by omega, by omega, by omega, r7⟩
theorem scr_l_step {A B : List Int} {x y y1 ed : Nat} (hx : x = 0) (hy : y = y1 + 1) (he : ed = y) (h : Scr A B x y ed) : Scr A B x y1 y1 ∧ True := by
  subst hx hy he
  refine ⟨?_, trivial⟩
  have := Scr.add (ed := y1 + 1) h (by rw [cst_l])
  simpa using this
theorem len1 (a : Option Addr) (c : Nat) (l : List Int) (z : Int) : Value.slice a (l.length + 1) c = Value.slice a (l ++ [z]).length c := by rw [List.length_append]; rfl
theorem scr_r_step {A B : List Int} {x y x1 ed : Nat} (hx : x = x1 + 1) (hy : y = 0) (he : ed = x) (h : Scr A B x y ed) : Scr A B x1 y x1 := by
  subst hx hy he
  have := Scr.drop (ed := x1 + 1) h (by rw [cst_r])
  simpa using this
theorem scr_keep_step {A B : List Int} {x y x1 y1 ed : Nat} (hx : x = x1 + 1) (hy : y = y1 + 1) (hE : eq2 A B x1 y1 = true) (h : Scr A B x y ed) : Scr A B x1 y1 ed := by
  subst hx hy; exact h.keep hE
theorem scr_drop_step {A B : List Int} {x y x1 y1 ed ed1 : Nat} (hx : x = x1 + 1) (hy : y = y1 + 1) (he : ed = ed1 + 1) (hE : ¬ eq2 A B x1 y1 = true) (hc : cst (eq2 A B) x1 y ≤ ed1) (h : Scr A B x y ed) : Scr A B x1 y ed1 ∧ mv (eq2 A B) (x1 + 1) y = 2 :: mv (eq2 A B) x1 y := by
  subst hx hy he
  have h1 := h.cost
  rw [cst_no hE] at h1
  exact ⟨by have := Scr.drop (ed := ed1 + 1) h (by omega); simpa using this, mv_drop hE (by omega)⟩
theorem scr_add_step {A B : List Int} {x y x1 y1 ed ed1 : Nat} (hx : x = x1 + 1) (hy : y = y1 + 1) (he : ed = ed1 + 1) (hE : ¬ eq2 A B x1 y1 = true) (hc : ¬ cst (eq2 A B) x1 y ≤ ed1) (h : Scr A B x y ed) : Scr A B x y1 ed1 ∧ mv (eq2 A B) x (y1 + 1) = 3 :: mv (eq2 A B) x y1 := by
  subst hx hy he
  have h1 := h.cost
  rw [cst_no hE] at h1
  exact ⟨by have := Scr.add (ed := ed1 + 1) h (by omega); simpa using this, mv_add hE (by omega)⟩
theorem scr_lt {A B : List Int} {x y ed ed1 : Nat} (h : Scr A B x y ed) (he : ed = ed1 + 1) : ed1 < dist A B := by have := h.le; omega
theorem scr_ask {A B : List Int} {x y x1 ed ed1 : Nat} (hx : x = x1 + 1) (he : ed = ed1 + 1) (h : Scr A B x y ed) {low : Int} {l : List Int} (hG : My.Good (eq2 A B) A.length B.length ed1 low l) {X Y : Int} (hC : Comp (eq2 A B) A.length B.length ed1 low l X Y) (hX : X ≤ (x : Int) - y - 1) (hY : (x : Int) - y - 1 ≤ Y) :
    reachF low l x1 y = decide (cst (eq2 A B) x1 y ≤ ed1) := by
  subst hx he; exact h.ask hG hC hX hY
/-- The lists stand while the moves grow. -/
theorem Ag.bytes {w0 wb : World} {g pf pt pn pm pa pb kb : Nat} {A B : List Int} {aa ab : Option Addr} {ca cb : Nat} {fa ga : Option Addr} {gn gc : Nat} {fr : Int} {AL : List LV} {f : Nat} {c0 : Int} {W W' : World} (h : Ag w0 wb g pf pt pn pm pa pb kb A B aa ab ca cb fa ga gn gc fr AL f c0 W) {v : Value} {l : List UInt8} (hm : Own W wb.heap.size v l) (hg : W.grownBy W' v.ownBlock) : Ag w0 wb g pf pt pn pm pa pb kb A B aa ab ca cb fa ga gn gc fr AL f c0 W' := by
  have hl := h.lt
  have hs := h.size
  have hown : ∀ k, v.ownBlock = some k → wb.heap.size ≤ k := fun k hk => hm.grown k hk
  have hty : ∀ k, v.ownBlock = some k → ∃ cur fr, W.heap[k]? = some (.cells cur 5 fr) := fun k hk => by
    obtain ⟨_, o2⟩ := hm
    rcases o2 with ⟨hv, _⟩ | ⟨b, cap, cur, hv, hb, hh, r⟩
    · rw [hv] at hk; cases hk
    · rw [hv] at hk; cases hk; exact ⟨_, _, hh⟩
  have blk : ∀ b, b < W.heap.size → (∀ k, v.ownBlock = some k → b ≠ k) → W'.heap[b]? = W.heap[b]? := fun b hb hne => hg.block b hb (fun e => hne b e.symm rfl)
  have tne : ∀ {b : Nat} {T : TypeId} {cs : Array Value} {fr : Nat × Nat}, W.heap[b]? = some (.cells cs T fr) → T ≠ 5 → ∀ k, v.ownBlock = some k → b ≠ k := fun h1 hT k hk e => by
    obtain ⟨cur, fr2, h2⟩ := hty k hk
    rw [← e, h1] at h2
    simp only [Option.some.injEq, Obj.cells.injEq] at h2
    exact hT h2.2.1
  refine ⟨fun b h1 h2 => (blk b (by omega) (fun k hk => by have := hown k hk; omega)).trans (h.same b h1 h2), h.below.grown hg (by omega) (fun k hk => by have := hown k hk; omega), by have := hg.size; omega, (blk g (by omega) (fun k hk => by have := hown k hk; omega)).trans h.row, h.own.kept hg ?_, fun t ht => ⟨?_, (h.each t ht).2⟩, hl⟩
  · cases hv : (Value.slice ga gn gc).ownBlock with
    | none => exact .inl rfl
    | some k =>
      refine .inr (fun e => ?_)
      obtain ⟨⟨_, o2⟩, _⟩ := h.own
      rcases o2 with ⟨hv2, _⟩ | ⟨b, cap, cur, hv2, hb, hh, r⟩
      · rw [hv2] at hv; cases hv
      · rw [hv2] at hv
        cases hv
        exact tne hh (by decide) _ e.symm rfl
  · have hl := (h.each t ht).1
    have key : ∀ b off, (gd AL t).a = some ⟨b, off, none⟩ → W'.heap[b]? = W.heap[b]? := fun b off e => by
      obtain ⟨cs, fr, h1⟩ := hl.typed b off e
      exact blk b (hl.typed.lt e) (tne h1 (by decide))
    refine ⟨fun b off e => ?_, ?_, hl.small, hl.few⟩
    · obtain ⟨cs, fr, h1⟩ := hl.typed b off e
      exact ⟨cs, fr, (key b off e).trans h1⟩
    · obtain ⟨h1, h2, h3, h4⟩ := hl.runs
      refine ⟨h1, h2, h3, ?_⟩
      rcases h4 with h4 | ⟨b, off, ha, hc⟩
      · exact .inl h4
      · exact .inr ⟨b, off, ha, fun j hj => (cell_same (key b off ha)).trans (hc j hj)⟩
set_option maxRecDepth 100000 in
set_option maxHeartbeats 4000000 in
theorem script_any (A B : List Int) (aa ab : Option Addr) (ca cb : Nat) (w : World) (ha : Runs w aa A.length ca A) (hb : Runs w ab B.length cb B) (hA : A.length ≤ 4096) (hB : B.length ≤ 4096) :
    Calls Tryd.prog 54 #[.slice aa A.length ca, .slice ab B.length cb] w (ScrIs (scr A B) w) := by
  obtain ⟨n, hn⟩ : ∃ n, A.length = n := ⟨_, rfl⟩
  obtain ⟨m, hm⟩ : ∃ m, B.length = m := ⟨_, rfl⟩
  have HN := Lib.hid hn
  have HM := Lib.hid hm
  have NW := Lib.hid (newFinder_any A B aa ab ca cb w ha hb hA hB)
  have HAL := Lib.hid hA
  have HBL := Lib.hid hB
  rw [hn, hm] at NW
  rw [hn, hm]
  have hnI : (n : Int) ≤ 4096 := by omega
  have hmI : (m : Int) ≤ 4096 := by omega
  have hn0 : (0 : Int) ≤ n := by omega
  have hm0 : (0 : Int) ≤ m := by omega
  clear ha hb hA hB hn hm
  go_enter Tryd.func54, Tryd.ntmps54
  go_wp2_with (first
    | (go_at_call 75; (with_reducible refine NW.out.mono ?_); rintro en w1 ⟨g, pf, pt, pn, pm, pa, pb, kb, fa, r, rfl, hF, hL, hS, hk, hlt, hb1⟩
       have FN := Lib.hid (find_any g pf pt pn pm pa pb kb A B aa ab ca cb fa r w1 hF hL hS hk HAL.out HBL.out)
       have HLT := Lib.hid hlt
       have HB1 := Lib.hid hb1
       clear hF hL hS hk hlt hb1)
    | (go_at_call 76; (with_reducible refine FN.out.mono ?_); rintro en wb ⟨k, rfl, hF2, hK2, hk2, hb2⟩
       have BS := Lib.hid (show Base w wb g pf pt pn pm pa pb kb A B aa ab ca cb fa k from ⟨hF2, hK2, HB1.out.trans (hb2.mono HLT.out.2.1), hk2, HLT.out.1⟩)
       have AG0 := Lib.hid (show Ag w wb g pf pt pn pm pa pb kb A B aa ab ca cb fa none 0 0 0 [] 0 0 wb from ⟨fun _ _ _ => rfl, BS.out.below, Nat.le_refl _, hF2.row, OwnG.nil, fun t ht => by simp at ht, ⟨by have := hb2.size; have := HLT.out.2.2.1; omega, HLT.out.1, BS.out.below.size⟩⟩)
       clear hF2 hK2 hk2 hb2))
  go_loopg [6, 7, 8, 9] (n + m) (fun gh v6 v7 v8 v9 W => ∃ (ed x y : Nat) (a : Option Addr) (c : Nat) (l : List Int) (ga : Option Addr) (gn gc : Nat) (fr : Int) (AL : List LV) (f e0 : Nat) (c0 : Int), v6 = .int .i64 ed ∧ v7 = .slice a l.length c ∧ v8 = .int .i64 x ∧ v9 = .int .i64 y ∧ gh = x + y ∧
    Hid (Scr A B x y ed) ∧ Hid (l ++ mv (eq2 A B) x y = scr A B) ∧ Hid (Mvs W wb.heap.size a c l) ∧ Hid (Ag w wb g pf pt pn pm pa pb kb A B aa ab ca cb fa ga gn gc fr AL f c0 W) ∧ Hid (AL = [] ∨ (fr = (f : Int) ∧ Rdy AL f e0 c0 ((x : Int) - y) ed)))
  case atStart => exact ⟨dist A B, n, m, none, 0, [], none, 0, 0, 0, [], 0, 0, 0, rfl, rfl, rfl, rfl, rfl, Lib.hid (by rw [← HN.out, ← HM.out]; exact Scr.start A B), Lib.hid (by rw [← HN.out, ← HM.out]; rfl), Lib.hid ⟨Own.nil _ _⟩, AG0, Lib.hid (.inl rfl)⟩
  case round =>
    obtain ⟨ed, x, y, a, c, l, ga, gn, gc, fr, AL, f, e0, c0, rfl, rfl, rfl, rfl, hgh, HSC, HML, HMV, HAG, HRD⟩ := hrel
    have HGH := Lib.hid hgh
    clear hgh
    have hxn : (x : Int) ≤ n := by have := HSC.out.xn; have := HN.out; omega
    have hym : (y : Int) ≤ m := by have := HSC.out.ym; have := HM.out; omega
    have HLL := Lib.hid (show (mvB l).length + 1 ≤ 140737488355328 by
      have h1 := congrArg List.length HML.out
      rw [List.length_append] at h1
      have h2 := mv_len (E := eq2 A B) _ A.length B.length (Nat.le_refl _)
      have h3 : (scr A B).length ≤ A.length + B.length := h2
      have h4 := HAL.out; have h5 := HBL.out
      unfold mvB; rw [List.length_map]; omega)
    have hBo := HAG.out.both BS.out
    by_cases hx : x = 0
    · by_cases hy : y = 0
      · -- the end
        have z1 : decide (0 < x) = false := by simp [hx]
        have z2 : decide ((0 : Int) < (x : Int)) = false := by simp [hx]
        have z3 : decide (0 < y) = false := by simp [hy]
        have z4 : decide ((0 : Int) < (y : Int)) = false := by simp [hy]
        have HE := Lib.hid (show l = scr A B by
          have := HML.out
          rw [hx, hy, mv_nil, List.append_nil] at this; exact this)
        clear hx hy hBo
        go_wp2
        go_ret
        rw [← HE.out]
        exact ⟨a, c, rfl, HMV.out.own.mono BS.out.below.size, HAG.out.below⟩
      · -- added
        obtain ⟨y1, hy1⟩ : ∃ k, y = k + 1 := ⟨y - 1, by omega⟩
        have z1 : decide (0 < x) = false := by simp [hx]
        have z2 : decide ((0 : Int) < (x : Int)) = false := by simp [hx]
        have z3 : decide (0 < y) = true := by simp; omega
        have z4 : decide ((0 : Int) < (y : Int)) = true := by simp; omega
        have z5 : (y == 0) = false := by simp [hy]
        have z6 : ((y : Int) == 0) = false := by rw [nat_zero]; exact z5
        have q1 : (y : Int) - 1 = (y1 : Int) := by omega
        have q2 : IntKind.i64.wrap (y1 : Int) = (y1 : Int) := IntWalk.i64_in _ (by omega)
        have hed : ed = y := by have := HSC.out.cost; rw [hx, cst_l] at this; exact this.symm
        have q3 : (ed : Int) - 1 = (y1 : Int) := by omega
        have HX0 := Lib.hid hx
        have HY1 := Lib.hid hy1
        have HED := Lib.hid hed
        clear hx hy hy1 hBo hed
        go_wp2_with fail
        go_quiet (fail)
        have N1 := Lib.hid (HAG.out.on (below_drewN wr nq))
        have M1 := Lib.hid (HMV.out.chg (g := g) (Chg8.of_below (below_drewN wr nq)) BS.out.fin.row.lt)
        obtain ⟨w4, hw4⟩ : ∃ W, wr.drewN nq = W := ⟨_, rfl⟩
        rw [hw4] at N1 M1
        rw [hw4]
        clear hw4
        go_wp2_with (first
          | ((with_reducible show wpList _ _ _ (⟨some 27, _, _, _, _, _⟩ :: _) _ _); refine app_bytes rfl _ _ rfl wb.heap.size (.slice a l.length c) (mvB l) rfl (M1.out.own.alloc _) (some ⟨w4.heap.size, 0, none⟩) 1 1 [3] rfl (bytes_one w4 3) HLL.out (by have := N1.out.size; simp; omega) ?_; intro v5 w5 ho5 hg5
             obtain ⟨a5, c5, rfl, hm5⟩ := mvs_app (z := 3) ho5 rfl
             have M5 := Lib.hid hm5
             have G5 := Lib.hid (Ag.bytes (N1.out.on ((Below.refl w4.heap.size w4).alloc (Nat.le_refl _) (.cells #[.int .u8 3] 5))) (M1.out.own.alloc _) hg5)
             clear ho5 hg5 hm5))
        go_roundg (x + y1)
        case measure => have := HGH.out; have := HY1.out; omega
        case rel => exact ⟨y1, x, y1, a5, c5, l ++ [3], ga, gn, gc, fr, AL, f, e0, c0, rfl, len1 _ _ _ _, rfl, rfl, rfl, Lib.hid (scr_l_step HX0.out HY1.out HED.out HSC.out).1, Lib.hid (by have h1 := HML.out; rw [HX0.out, HY1.out, mv_l] at h1; rw [HX0.out, List.append_assoc]; exact h1), M5, G5, Lib.hid (by
            rcases HRD.out with h | ⟨h1, h2⟩
            · exact .inl h
            · refine .inr ⟨h1, ?_⟩
              have := HED.out; have := HY1.out
              exact h2.move (by omega) (by omega) (by omega))⟩
    · obtain ⟨x1, hx1⟩ : ∃ k, x = k + 1 := ⟨x - 1, by omega⟩
      have z1 : decide (0 < x) = true := by simp; omega
      have z2 : decide ((0 : Int) < (x : Int)) = true := by simp; omega
      have p1 : (x : Int) - 1 = (x1 : Int) := by omega
      have p2 : IntKind.i64.wrap (x1 : Int) = (x1 : Int) := IntWalk.i64_in _ (by omega)
      have HX1 := Lib.hid hx1
      by_cases hy : y = 0
      · -- dropped: nothing else is left
        have z3 : decide (0 < y) = false := by simp [hy]
        have z4 : decide ((0 : Int) < (y : Int)) = false := by simp [hy]
        have z5 : (y == 0) = true := by simp [hy]
        have z6 : ((y : Int) == 0) = true := by rw [nat_zero]; exact z5
        have hed : ed = x := by have := HSC.out.cost; rw [hy, cst_r] at this; exact this.symm
        have q3 : (ed : Int) - 1 = (x1 : Int) := by omega
        have HY0 := Lib.hid hy
        have HED := Lib.hid hed
        clear hx hx1 hy hBo hed
        go_wp2_with fail
        go_quiet (fail)
        have N1 := Lib.hid (HAG.out.on (below_drewN wr nq))
        have M1 := Lib.hid (HMV.out.chg (g := g) (Chg8.of_below (below_drewN wr nq)) BS.out.fin.row.lt)
        obtain ⟨w4, hw4⟩ : ∃ W, wr.drewN nq = W := ⟨_, rfl⟩
        rw [hw4] at N1 M1
        rw [hw4]
        clear hw4
        go_wp2_with (first
          | ((with_reducible show wpList _ _ _ (⟨some 83, _, _, _, _, _⟩ :: _) _ _); refine app_bytes rfl _ _ rfl wb.heap.size (.slice a l.length c) (mvB l) rfl (M1.out.own.alloc _) (some ⟨w4.heap.size, 0, none⟩) 1 1 [2] rfl (bytes_one w4 2) HLL.out (by have := N1.out.size; simp; omega) ?_; intro v5 w5 ho5 hg5
             obtain ⟨a5, c5, rfl, hm5⟩ := mvs_app (z := 2) ho5 rfl
             have M5 := Lib.hid hm5
             have G5 := Lib.hid (Ag.bytes (N1.out.on ((Below.refl w4.heap.size w4).alloc (Nat.le_refl _) (.cells #[.int .u8 2] 5))) (M1.out.own.alloc _) hg5)
             clear ho5 hg5 hm5))
        go_roundg (x1 + y)
        case measure => have := HGH.out; have := HX1.out; omega
        case rel => exact ⟨x1, x1, y, a5, c5, l ++ [2], ga, gn, gc, fr, AL, f, e0, c0, rfl, len1 _ _ _ _, rfl, rfl, rfl, Lib.hid (scr_r_step HX1.out HY0.out HED.out HSC.out), Lib.hid (by have h1 := HML.out; rw [HX1.out, HY0.out, mv_r] at h1; rw [HY0.out, List.append_assoc]; exact h1), M5, G5, Lib.hid (by
            rcases HRD.out with h | ⟨h1, h2⟩
            · exact .inl h
            · refine .inr ⟨h1, ?_⟩
              have := HED.out; have := HX1.out
              exact h2.move (by omega) (by omega) (by omega))⟩
      · obtain ⟨y1, hy1⟩ : ∃ k, y = k + 1 := ⟨y - 1, by omega⟩
        have z3 : decide (0 < y) = true := by simp; omega
        have z4 : decide ((0 : Int) < (y : Int)) = true := by simp; omega
        have z5 : (y == 0) = false := by simp [hy]
        have z6 : ((y : Int) == 0) = false := by rw [nat_zero]; exact z5
        have q1 : (y : Int) - 1 = (y1 : Int) := by omega
        have q2 : IntKind.i64.wrap (y1 : Int) = (y1 : Int) := IntWalk.i64_in _ (by omega)
        have HY1 := Lib.hid hy1
        obtain ⟨i1, hi1⟩ : ∃ i, n - x = i := ⟨_, rfl⟩
        obtain ⟨j1, hj1⟩ : ∃ i, m - y = i := ⟨_, rfl⟩
        have t1 : (n : Int) - (x : Int) = (i1 : Int) := by omega
        have t2 : (m : Int) - (y : Int) = (j1 : Int) := by omega
        have t3 : IntKind.i64.wrap (i1 : Int) = (i1 : Int) := IntWalk.i64_in _ (by omega)
        have t4 : IntKind.i64.wrap (j1 : Int) = (j1 : Int) := IntWalk.i64_in _ (by omega)
        have t5 : (i1 : Int) < (n : Int) := by omega
        have t6 : (j1 : Int) < (m : Int) := by omega
        obtain ⟨ba, oa, haa, cA⟩ := hBo.toCaught.ra.at_ (j := i1) (by rw [HN.out]; omega)
        obtain ⟨bb, ob, hab, cB⟩ := hBo.toCaught.rb.at_ (j := j1) (by rw [HM.out]; omega)
        subst haa hab
        have HE := Lib.hid (show eq2 A B x1 y1 = (A.getD i1 0 == B.getD j1 0) by
          unfold eq2
          rw [HN.out, HM.out]
          have e1 : n - 1 - x1 = i1 := by omega
          have e2 : m - 1 - y1 = j1 := by omega
          rw [e1, e2])
        obtain ⟨u, hu⟩ : ∃ u, A.getD i1 0 = u := ⟨_, rfl⟩
        obtain ⟨v, hv⟩ : ∃ v, B.getD j1 0 = v := ⟨_, rfl⟩
        rw [hu] at cA HE
        rw [hv] at cB HE
        clear hx hx1 hy hy1 hi1 hj1 hu hv hBo
        by_cases huv : u = v
        · have y5 : (u == v) = true := by simpa using huv
          have HE1 := Lib.hid (show eq2 A B x1 y1 = true by rw [HE.out]; exact y5)
          clear huv
          go_wp2_with fail
          go_quiet (fail)
          have N1 := Lib.hid (HAG.out.on (below_drewN wr nq))
          have M1 := Lib.hid (HMV.out.chg (g := g) (Chg8.of_below (below_drewN wr nq)) BS.out.fin.row.lt)
          obtain ⟨w4, hw4⟩ : ∃ W, wr.drewN nq = W := ⟨_, rfl⟩
          rw [hw4] at N1 M1
          rw [hw4]
          clear hw4
          go_wp2_with (first
            | ((with_reducible show wpList _ _ _ (⟨some 56, _, _, _, _, _⟩ :: _) _ _); refine app_bytes rfl _ _ rfl wb.heap.size (.slice a l.length c) (mvB l) rfl (M1.out.own.alloc _) (some ⟨w4.heap.size, 0, none⟩) 1 1 [1] rfl (bytes_one w4 1) HLL.out (by have := N1.out.size; simp; omega) ?_; intro v5 w5 ho5 hg5
               obtain ⟨a5, c5, rfl, hm5⟩ := mvs_app (z := 1) ho5 rfl
               have M5 := Lib.hid hm5
               have G5 := Lib.hid (Ag.bytes (N1.out.on ((Below.refl w4.heap.size w4).alloc (Nat.le_refl _) (.cells #[.int .u8 1] 5))) (M1.out.own.alloc _) hg5)
               clear ho5 hg5 hm5))
          go_roundg (x1 + y1)
          case measure => have := HGH.out; have := HX1.out; have := HY1.out; omega
          case rel => exact ⟨ed, x1, y1, a5, c5, l ++ [1], ga, gn, gc, fr, AL, f, e0, c0, rfl, len1 _ _ _ _, rfl, rfl, rfl, Lib.hid (scr_keep_step HX1.out HY1.out HE1.out HSC.out), Lib.hid (by have h1 := HML.out; rw [HX1.out, HY1.out, mv_yes HE1.out] at h1; rw [List.append_assoc]; exact h1), M5, G5, Lib.hid (by
            rcases HRD.out with h | ⟨h1, h2⟩
            · exact .inl h
            · refine .inr ⟨h1, ?_⟩
              have e := HX1.out; have e2 := HY1.out
              have e3 : ((x1 : Int) - y1) = (x : Int) - y := by omega
              rw [e3]; exact h2)⟩
        · have y5 : (u == v) = false := by simpa using huv
          have HE1 := Lib.hid (show ¬ eq2 A B x1 y1 = true by rw [HE.out, y5]; decide)
          obtain ⟨ed1, hed1⟩ : ∃ k, ed = k + 1 := ⟨ed - 1, by have := HSC.out.cost; rw [HX1.out, HY1.out, cst_no HE1.out] at this; omega⟩
          have HED := Lib.hid hed1
          have q3 : (ed : Int) - 1 = (ed1 : Int) := by omega
          have hedb : ed ≤ x + y := by have := (cst_bd (E := eq2 A B) x y).1; rw [HSC.out.cost] at this; exact this
          have q4 : IntKind.i64.wrap (ed1 : Int) = (ed1 : Int) := IntWalk.i64_in _ (by omega)
          obtain ⟨q, hq⟩ : ∃ q, (x : Int) - (y : Int) = q := ⟨_, rfl⟩
          have q5 : IntKind.i64.wrap q = q := IntWalk.i64_in _ (by omega)
          have HQ := Lib.hid hq
          have LI := Lib.hid (fun W (hW : Ag w wb g pf pt pn pm pa pb kb A B (some ⟨ba, oa, none⟩) (some ⟨bb, ob, none⟩) ca cb fa ga gn gc fr AL f c0 W) => list_any w wb g pf pt pn pm pa pb kb A B (some ⟨ba, oa, none⟩) (some ⟨bb, ob, none⟩) ca cb fa k BS.out HAL.out HBL.out ga gn gc fr AL f e0 c0 W hW ed1 (x : Int) q (by rw [← hq]; exact HSC.out.pt) (by rw [← hq]; exact HSC.out.free) (by rw [← hq, HSC.out.cd]; exact hed1) (by rw [← hq, ← hed1]; exact HRD.out) (scr_lt HSC.out hed1))
          clear hed1 huv hedb
          by_cases hc : cst (eq2 A B) x1 y ≤ ed1
          all_goals
            have HC := Lib.hid hc
            go_wp2_with fail
            go_quiet (fail)
            have N1 := Lib.hid (HAG.out.on (below_drewN wr nq))
            have M1 := Lib.hid (HMV.out.chg (g := g) (Chg8.of_below (below_drewN wr nq)) BS.out.fin.row.lt)
            obtain ⟨w4, hw4⟩ : ∃ W, wr.drewN nq = W := ⟨_, rfl⟩
            rw [hw4] at N1 M1
            rw [hw4]
            clear hw4
            go_wp2_with (first
              | (go_at_call 77; (refine (LI.out _ N1.out).mono ?_); rintro en w6 ⟨xx, ga6, gn6, gc6, f6, e6, c6, AL6, rfl, hA6, hR6, hf6, hl6, hG6, ⟨X, Y, hC6, hX6, hY6⟩, hch6⟩
                 have A6 := Lib.hid hA6; have R6 := Lib.hid hR6
                 have M6 := Lib.hid (M1.out.chg hch6 BS.out.fin.row.lt)
                 have hrv := scr_ask HX1.out HED.out HSC.out hG6 hC6 (by rw [HQ.out]; exact hX6) (by rw [HQ.out]; exact hY6)
                 have RE := Lib.hid (reaches_any xx.low xx.a xx.n xx.c xx.l x1 y w6 hl6 (by have := hG6.lows; have := HBL.out; omega) (by have := hG6.lows; have := HAL.out; have := hG6.pos; omega) (by omega) (by omega) (by omega) (by omega))
                 rw [hrv] at RE
                 clear hA6 hR6 hf6 hl6 hG6 hC6 hX6 hY6 hch6 hrv)
              | (go_at_call 78; (refine RE.out.mono ?_); rintro en w7 ⟨rfl, hb7⟩
                 have A7 := Lib.hid (A6.out.on hb7)
                 have M7 := Lib.hid (M6.out.chg (g := g) (Chg8.of_below hb7) BS.out.fin.row.lt)
                 have hcd := HC.out
                 clear hb7)
              | ((with_reducible show wpList _ _ _ (⟨some 83, _, _, _, _, _⟩ :: _) _ _); refine app_bytes rfl _ _ rfl wb.heap.size (.slice a l.length c) (mvB l) rfl (M7.out.own.alloc _) (some ⟨w7.heap.size, 0, none⟩) 1 1 [2] rfl (bytes_one w7 2) HLL.out (by have := A7.out.size; simp; omega) ?_; intro v5 w5 ho5 hg5
                 obtain ⟨a5, c5, rfl, hm5⟩ := mvs_app (z := 2) ho5 rfl
                 have M5 := Lib.hid hm5
                 have G5 := Lib.hid (Ag.bytes (A7.out.on ((Below.refl w7.heap.size w7).alloc (Nat.le_refl _) (.cells #[.int .u8 2] 5))) (M7.out.own.alloc _) hg5)
                 clear ho5 hg5 hm5)
              | ((with_reducible show wpList _ _ _ (⟨some 27, _, _, _, _, _⟩ :: _) _ _); refine app_bytes rfl _ _ rfl wb.heap.size (.slice a l.length c) (mvB l) rfl (M7.out.own.alloc _) (some ⟨w7.heap.size, 0, none⟩) 1 1 [3] rfl (bytes_one w7 3) HLL.out (by have := A7.out.size; simp; omega) ?_; intro v5 w5 ho5 hg5
                 obtain ⟨a5, c5, rfl, hm5⟩ := mvs_app (z := 3) ho5 rfl
                 have M5 := Lib.hid hm5
                 have G5 := Lib.hid (Ag.bytes (A7.out.on ((Below.refl w7.heap.size w7).alloc (Nat.le_refl _) (.cells #[.int .u8 3] 5))) (M7.out.own.alloc _) hg5)
                 clear ho5 hg5 hm5))
          · go_roundg (x1 + y)
            case measure => have := HGH.out; have := HX1.out; omega
            case rel => exact ⟨ed1, x1, y, a5, c5, l ++ [2], ga6, gn6, gc6, f6, AL6, f6, e6, c6, by go_num, len1 _ _ _ _, rfl, rfl, rfl, Lib.hid (scr_drop_step HX1.out HY1.out HED.out HE1.out HC.out HSC.out).1, Lib.hid (by have h1 := HML.out; rw [HX1.out, (scr_drop_step HX1.out HY1.out HED.out HE1.out HC.out HSC.out).2] at h1; rw [List.append_assoc]; exact h1), M5, G5, Lib.hid (.inr ⟨rfl, R6.out.move rfl (by have := HQ.out; have := HX1.out; omega) (by have := HQ.out; have := HX1.out; omega)⟩)⟩
          · go_roundg (x + y1)
            case measure => have := HGH.out; have := HY1.out; omega
            case rel => exact ⟨ed1, x, y1, a5, c5, l ++ [3], ga6, gn6, gc6, f6, AL6, f6, e6, c6, by go_num, len1 _ _ _ _, rfl, rfl, rfl, Lib.hid (scr_add_step HX1.out HY1.out HED.out HE1.out HC.out HSC.out).1, Lib.hid (by have h1 := HML.out; rw [HY1.out, (scr_add_step HX1.out HY1.out HED.out HE1.out HC.out HSC.out).2] at h1; rw [List.append_assoc]; exact h1), M5, G5, Lib.hid (.inr ⟨rfl, R6.out.move rfl (by have := HQ.out; have := HY1.out; omega) (by have := HQ.out; have := HY1.out; omega)⟩)⟩
#print axioms script_any
end Go.Proofs.YtfoalaoanpbmeaaDoor
