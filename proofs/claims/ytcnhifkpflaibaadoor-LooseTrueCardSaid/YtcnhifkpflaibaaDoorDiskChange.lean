/-
  The walks of change, with each of the three acts; of size.
-/
import Derived.Test.YtcnhifkpflaibaaDoorDiskActs
namespace Go.Proofs.YtcnhifkpflaibaaDoor
open Go.RowKit Go.Maps

theorem infoFn : (Tryd.prog.info? 76).map (fun i => (i.zero, i.size, i.bytes)) = some (some .nilFunc, 1, 8) := by kernel_rfl
/-- An append of one act to the disk's acts, told. -/
theorem app_act {w : World} {ops : Array Oper} {rest : List Oper} {o : Oper} {a : Act} {Q : Exit → Act → World → Prop} (hgd : o.guard = none) (s x : Operand)
    (ho : o.op = .call { callee := .builtin .append, args := #[s, x], argTypes := #[53, 53] })
    (v : Value) (xs : List Value) (hs : a.eval s = v) (hown : w.ownsRow 0 76 1 v xs.length xs)
    (g : Nat) (y : Value) (hx : a.eval x = .slice (some ⟨g, 0, none⟩) 1 1) (hsrc : w.cell? ⟨g, 0, none⟩ = some y) (h1 : y.oneCell' = true) (hn : xs.length ≤ 1000000)
    (h : ∀ a' c' w', w'.ownsRow 0 76 1 (.slice a' (xs ++ [y]).length c') (xs ++ [y]).length (xs ++ [y]) → w.grownBy w' v.ownBlock → Told w v (.slice a' (xs ++ [y]).length c') → wpList Tryd.prog ops Q rest (a.put o.dst (.slice a' (xs ++ [y]).length c')) w') : wpList Tryd.prog ops Q (o :: rest) a w := by
  obtain ⟨i0, hi, hz0, hz1, hz2⟩ := info_parts infoFn
  obtain ⟨v', w', hrn, h5, h6, h7⟩ := run_append_tell (P := Tryd.prog) w 0 53 o.type 76 i0 .nilFunc 1 8 Tryd.underlying53 hi hz0 hz1 hz2 rfl (by decide) v xs.length xs hown
    ⟨g, 0, none⟩ 1 1 [y] (by simp) (fun j u hu => by
      cases j with
      | zero => simp only [List.getElem?_cons_zero, Option.some.injEq] at hu; subst hu; rw [Addr.add_lit]; exact hsrc
      | succ j => simp at hu) (fun u hu => by simp only [List.mem_singleton] at hu; subst hu; exact h1) (by unfold maxLen; omega) (by omega) (Nat.zero_le _)
  have e : xs.length + 1 = (xs ++ [y]).length := by simp
  rw [e] at h5
  have hsh : ∃ a' c', v' = .slice a' (xs ++ [y]).length c' := by
    rcases h5.2 with ⟨_, h0⟩ | ⟨g, cap, cur, rfl, _⟩
    · simp at h0
    · exact ⟨_, _, rfl⟩
  obtain ⟨a', c', rfl⟩ := hsh
  exact Lib.wpList_append_run w hgd s x _ _ ho _ _ hs hx _ _ hrn (h a' c' w' h5 h6 h7)

set_option maxRecDepth 100000 in
set_option maxHeartbeats 400000 in
theorem size_any (b n : Nat) (bl : List Nat) (g : Nm → Option Nat) (s : ByteArray) (w : World) (hD : DirAt w b bl n g) (hs : s.size ≤ 80) (o : Option Nat) (ho : g s.data.toList = o) (len : Nat)
    (hnone : o = none → len = 0) (hsome : ∀ k, o = some k → ∃ a c, w.cell? ⟨bl.getD k 0, 0, none⟩ = some (.slice a len c)) :
    Calls Tryd.prog 66 #[.map (some b), .string s] w fun e w' => e = .returned (.int .i64 (len : Int)) ∧ w = w' := by
  have hlk := dir_look hD s (by omega)
  rw [ho] at hlk
  clear hD ho
  cases o with
  | none =>
    obtain rfl := hnone rfl
    clear hnone hsome
    simp only [ptrOf] at hlk
    go_enter Tryd.func66, Tryd.ntmps66
    go_wp2
    go_ret
    exact ⟨rfl, rfl⟩
  | some k =>
    obtain ⟨a, c, hc⟩ := hsome k rfl
    clear hnone hsome
    simp only [ptrOf] at hlk
    generalize bl.getD k 0 = x at hlk hc
    go_enter Tryd.func66, Tryd.ntmps66
    go_wp2
    go_ret
    exact ⟨rfl, rfl⟩

theorem cell_one (w : World) (v : Value) (t : TypeId) : (w.alloc (.cells #[v] t)).cell? ⟨w.heap.size, 0, none⟩ = some v := by simp
/-- What change leaves. -/
def ChgEnd (F : Nat → Prop) (w : World) (db : Nat) (S : DS) (M : Mem) (a : DAct) (v : Value) (e : Ending) (w' : World) : Prop :=
  e = .returned (.tuple #[]) ∧ Chg F w w' ∧ (∀ x t cs, t ≠ 76 → t ≠ 55 → RowAt w x t cs → RowAt w' x t cs) ∧ ∃ av, DiskIn (Plus F w w') w' db (doneS S a) { M with av := av, fs := M.fs ++ [v] }

section
variable {F : Nat → Prop} {w w1 w2 : World} {db : Nat} {S : DS} {M : Mem} {a : DAct} {v : Value}
theorem chg_mid (h : DiskIn F w db S M) (hg1 : w.grownBy w1 (some M.bf)) : Chg F w w1 ∧ RowAt w1 db 55 (diskC S M) ∧ w1.ownsRow 0 76 1 M.av M.fs.length M.fs := by
  refine ⟨Chg.refl.grown hg1 (fun k hk => by cases hk; exact .inl h.inF.2.1), h.row.same (hg1.block db (h.lt _ h.inF.1) (fun e => by cases e; exact h.db_map h.now rfl)), rowOwn_same h.acts.own (fun r hr => hg1.block r (h.lt _ (h.acts.inF r hr)) (fun e => by cases e; exact h.av_map h.now hr))⟩
/-- The act is done to what is seen; now it waits for what is kept. -/
theorem chg_fin (h : DiskIn F w db S M) (hact : ActAt F w M.bl a v) (hd : DirAt w1 M.bf M.bl (turnD S.now a).length (look (turnD S.now a))) (hg1 : w.grownBy w1 (some M.bf)) {o : Obj} {a' : Option Addr} {c' : Nat}
    (hown : w2.ownsRow 0 76 1 (.slice a' (M.fs ++ [v]).length c') (M.fs ++ [v]).length (M.fs ++ [v])) (hg2 : (w1.alloc o).grownBy w2 M.av.ownBlock) (ht : Told (w1.alloc o) M.av (.slice a' (M.fs ++ [v]).length c')) :
    RowAt w2 db 55 (diskC S M) ∧ ChgEnd F w db S M a v (.returned (.tuple #[])) (w2.setCell ⟨db, 3, none⟩ (.slice a' (M.fs ++ [v]).length c')) := by
  obtain ⟨k1, r1, o1⟩ := chg_mid h hg1
  have s1 : w.heap.size ≤ w1.heap.size := hg1.size
  have s2 : w1.heap.size + 1 ≤ w2.heap.size := by have := hg2.size; simpa using this
  have hrow : RowAt w2 db 55 (diskC S M) := by
    have r1' : RowAt (w1.alloc o) db 55 (diskC S M) := r1.same (Below.heap_alloc _ _ _ r1.lt)
    exact r1'.same (hg2.block db r1'.lt (fun e => h.av_db e.symm))
  have k2 : Chg F w w2 := (k1.alloc o).grown hg2 (fun k hk => .inl (h.acts.inF k hk))
  have k3 : Chg F w (w2.setCell ⟨db, 3, none⟩ (.slice a' (M.fs ++ [v]).length c')) := k2.setCell (.inl h.inF.1) _
  -- what is neither the map seen, nor the disk's row, nor the row of acts, is as it was
  have kX : ∀ k, k < w.heap.size → k ≠ M.bf → k ≠ db → M.av.ownBlock ≠ some k → (w2.setCell ⟨db, 3, none⟩ (.slice a' (M.fs ++ [v]).length c')).heap[k]? = w.heap[k]? := by
    intro k hk h1 h2 h3
    rw [Below.heap_setCell _ _ _ _ h2, hg2.block k (by simp; omega) (fun e => h3 e.symm), Below.heap_alloc _ _ _ (by omega), hg1.block k hk (fun e => h1 (by cases e; rfl))]
  have sz : (w2.setCell ⟨db, 3, none⟩ (.slice a' (M.fs ++ [v]).length c')).heap.size = w2.heap.size := by simp [World.setCell]
  have hold : ∀ k, F k → Plus F w (w2.setCell ⟨db, 3, none⟩ (.slice a' (M.fs ++ [v]).length c')) k := fun _ h => .inl h
  have kT : ∀ x t cs, t ≠ 76 → t ≠ 55 → RowAt w x t cs → RowAt (w2.setCell ⟨db, 3, none⟩ (.slice a' (M.fs ++ [v]).length c')) x t cs := by
    intro x t cs h1 h2 hr
    refine hr.same (kX x hr.lt (ne_map hr h.now) (ne_of_types hr h.row h2) (fun e => ?_))
    obtain ⟨cur, hc⟩ := row_block h.acts.own e
    exact ne_of_types hr hc h1 rfl
  refine ⟨hrow, rfl, k3, kT, .slice a' (M.fs ++ [v]).length c', ?_⟩
  refine ⟨?_, h.files.same hold (fun k hk hb => kX k (h.lt k hk) (file_map hb h.now) (h.db_file hb) (h.av_file hb)), ⟨?_, ?_, fun i hi => ?_, fun r hr => ?_⟩, ?_, ?_, h.two, h.arm, h.armI, ⟨.inl h.inF.1, .inl h.inF.2.1, .inl h.inF.2.2⟩, fun k hk => ?_⟩
  · have := hrow.set 3 (.slice a' (M.fs ++ [v]).length c')
    exact this
  · simp [h.acts.len, doneS]
  · exact rowOwn_same hown (fun r hr => Below.heap_setCell _ _ _ _ (fun e => by
      simp only at e
      subst e
      obtain ⟨cur, hc⟩ := row_block hown hr
      exact ne_of_types hc hrow (by decide) rfl))
  · have hbx : ∀ k, F k → BoxB w k → (w2.setCell ⟨db, 3, none⟩ (.slice a' (M.fs ++ [v]).length c')).heap[k]? = w.heap[k]? := fun k hk hb => kX k (h.lt k hk) (box_map hb h.now) (h.db_box hb) (h.av_box hb)
    have hi' : i < S.acts.length ∨ i = S.acts.length := by simp [doneS] at hi; omega
    rcases hi' with h1 | rfl
    · have e1 : (doneS S a).acts.getD i ⟨[], [], 0⟩ = S.acts.getD i ⟨[], [], 0⟩ := by simp [doneS, List.getD_eq_getElem?_getD, List.getElem?_append_left h1]
      have e2 : (M.fs ++ [v]).getD i undef = M.fs.getD i undef := by simp [List.getD_eq_getElem?_getD, List.getElem?_append_left (show i < M.fs.length by rw [h.acts.len]; exact h1)]
      show ActAt _ _ _ ((doneS S a).acts.getD i ⟨[], [], 0⟩) ((M.fs ++ [v]).getD i undef)
      rw [e1, e2]
      exact (h.acts.act i h1).same hold hbx
    · have e1 : (doneS S a).acts.getD S.acts.length ⟨[], [], 0⟩ = a := by simp [doneS, List.getD_eq_getElem?_getD]
      have e2 : (M.fs ++ [v]).getD S.acts.length undef = v := by rw [← h.acts.len]; simp [List.getD_eq_getElem?_getD]
      show ActAt _ _ _ ((doneS S a).acts.getD S.acts.length ⟨[], [], 0⟩) ((M.fs ++ [v]).getD S.acts.length undef)
      rw [e1, e2]
      exact hact.same hold hbx
  · have hlt := (World.ownsRow.lt hown r hr).2
    rcases ht with e | ⟨k, hk, hle⟩
    · exact .inl (h.acts.inF r (by rw [← e]; exact hr))
    · rw [hk] at hr
      cases hr
      exact .inr ⟨by simp at hle; omega, by rw [sz]; exact hlt⟩
  · have hbf : M.bf < w1.heap.size := hd.lt
    have e1 : (w2.setCell ⟨db, 3, none⟩ (.slice a' (M.fs ++ [v]).length c')).heap[M.bf]? = w1.heap[M.bf]? := by
      rw [Below.heap_setCell _ _ _ _ (fun e => h.db_map h.now e.symm), hg2.block M.bf (by simp; omega) (fun e => h.av_map h.now e.symm), Below.heap_alloc _ _ _ hbf]
    exact hd.same e1
  · exact h.kept.same (kX M.bk (h.lt _ h.inF.2.2) (fun e => h.two e.symm) (fun e => h.db_map h.kept e.symm) (h.av_map h.kept))
  · rcases hk with hk | hk
    · have := h.lt k hk; rw [sz]; omega
    · exact hk.2
end
theorem map_ne_row {w : World} {b n x : Nat} {bl : List Nat} {g : Nm → Option Nat} {t : TypeId} {cs : List Value} (h : DirAt w b bl n g) (hx : RowAt w x t cs) : w.heap[b]? ≠ w.heap[x]? := by
  obtain ⟨D, ⟨es, clock, h3, _⟩, _⟩ := h
  intro e; rw [h3, hx] at e; cases e

set_option maxRecDepth 100000 in
set_option maxHeartbeats 1000000 in
theorem change_put {F : Nat → Prop} {w : World} {db : Nat} {S : DS} {M : Mem} (a : DAct) (x y : Nat) (h : DiskIn F w db S M) (hi : Inv S) (hn : S.kept.length + S.acts.length ≤ 1000000) (h0 : a.src = []) (h1 : a.dst ≠ []) (h2 : a.dst.length ≤ 80) (hx : F x) (hy : F y) (cx : RowAt w x 60 [Pt (M.bl.getD a.file 0)]) (cy : RowAt w y 9 [.string (strB a.dst)]) :
    Calls Tryd.prog 36 #[Pt db, .func (.func 37) #[] #[Pt x, Pt y]] w (ChgEnd F w db S M a (.func (.func 37) #[] #[Pt x, Pt y])) := by
  have hg := hi.now
  have hnl : S.now.length ≤ 1000000 := hi.nowLe hn
  have HC := Lib.hid (show Calls _ _ _ w (DirEnd w M.bf M.bl (turnD S.now a)) from put_any M.bf x y M.bl S.now a w h.now hg.sorted hnl h0 h1 h2 (fun e he => may_ne (hg.named e he)) (cx.cell 0 rfl) (cy.cell 0 rfl))
  obtain ⟨_, c1, _⟩ := h.facts
  have HA := Lib.hid (show ActAt F w M.bl a (.func (.func 37) #[] #[Pt x, Pt y]) from .inl ⟨h0, h1, h2, x, y, hx, hy, rfl, cx, cy⟩)
  have H := Lib.hid h
  have HL := Lib.hid (show M.fs.length ≤ 1000000 by rw [h.acts.len]; omega)
  have f3 := Lib.hid h.row
  clear h hi hn hg hnl h0 h1 h2 hx hy cx cy
  go_enter Tryd.func36, Tryd.ntmps36
  go_wp2_with (first
    | (go_at_call 37; (with_reducible refine HC.out.mono ?_); rintro e w1 ⟨rfl, hd1, hg1⟩; have HD1 := Lib.hid hd1; have HG1 := Lib.hid hg1; have K := Lib.hid (chg_mid H.out hg1); have e3 := K.out.2.1.cell 3 rfl; clear hd1 hg1)
    | (at_builtin; refine app_act rfl _ _ rfl M.av M.fs rfl (World.ownsRow.alloc K.out.2.2 _) w1.heap.size _ rfl (cell_one w1 _ _) rfl HL.out ?_; intro a' c' w2 ho2 hg2 ht2; have FIN := Lib.hid (chg_fin H.out HA.out HD1.out HG1.out ho2 hg2 ht2); have g3 := FIN.out.1.cell 3 rfl; have fr := FIN.out.1.free 3; clear ho2 hg2 ht2))
  have FE := FIN.out.2
  simp only [List.length_append, List.length_cons, List.length_nil, Nat.zero_add] at FE
  exact bodyPost_ret (results_none rfl _ _ _) rfl FE

set_option maxRecDepth 100000 in
set_option maxHeartbeats 1000000 in
theorem change_del {F : Nat → Prop} {w : World} {db : Nat} {S : DS} {M : Mem} (a : DAct) (x : Nat) (h : DiskIn F w db S M) (hi : Inv S) (hn : S.kept.length + S.acts.length ≤ 1000000) (h0 : a.src ≠ []) (h1 : a.dst = []) (h2 : a.src.length ≤ 80) (hx : F x) (cx : RowAt w x 9 [.string (strB a.src)]) :
    Calls Tryd.prog 36 #[Pt db, .func (.func 67) #[] #[Pt x]] w (ChgEnd F w db S M a (.func (.func 67) #[] #[Pt x])) := by
  have hg := hi.now
  have hnl : S.now.length ≤ 1000000 := hi.nowLe hn
  have HC := Lib.hid (show Calls _ _ _ w (DirEnd w M.bf M.bl (turnD S.now a)) from del_any M.bf x M.bl S.now a w h.now hg.sorted h1 h2 (cx.cell 0 rfl))
  obtain ⟨_, c1, _⟩ := h.facts
  have HA := Lib.hid (show ActAt F w M.bl a (.func (.func 67) #[] #[Pt x]) from .inr (.inr ⟨h0, h1, h2, x, hx, rfl, cx⟩))
  have H := Lib.hid h
  have HL := Lib.hid (show M.fs.length ≤ 1000000 by rw [h.acts.len]; omega)
  have f3 := Lib.hid h.row
  clear h hi hn hg hnl h0 h1 h2 hx cx
  go_enter Tryd.func36, Tryd.ntmps36
  go_wp2_with (first
    | (go_at_call 67; (with_reducible refine HC.out.mono ?_); rintro e w1 ⟨rfl, hd1, hg1⟩; have HD1 := Lib.hid hd1; have HG1 := Lib.hid hg1; have K := Lib.hid (chg_mid H.out hg1); have e3 := K.out.2.1.cell 3 rfl; clear hd1 hg1)
    | (at_builtin; refine app_act rfl _ _ rfl M.av M.fs rfl (World.ownsRow.alloc K.out.2.2 _) w1.heap.size _ rfl (cell_one w1 _ _) rfl HL.out ?_; intro a' c' w2 ho2 hg2 ht2; have FIN := Lib.hid (chg_fin H.out HA.out HD1.out HG1.out ho2 hg2 ht2); have g3 := FIN.out.1.cell 3 rfl; have fr := FIN.out.1.free 3; clear ho2 hg2 ht2))
  have FE := FIN.out.2
  simp only [List.length_append, List.length_cons, List.length_nil, Nat.zero_add] at FE
  exact bodyPost_ret (results_none rfl _ _ _) rfl FE

#print axioms chg_fin
end Go.Proofs.YtcnhifkpflaibaaDoor
