/-
  Merged: DiskActs, DiskChange, DiskKeep, DiskAct.
-/
import Derived.Test.YtemphljkfpkgmaaDkFindAll
namespace Go.Proofs.Ytemphljkfpkgmaa
open Go.RowKit Go.Maps

theorem cell_same {w w' : World} {a : Addr} {v : Value} (h : w.cell? a = some v) (hb : w'.heap[a.block]? = w.heap[a.block]?) : w'.cell? a = some v := by
  rw [World.cell?_of_block hb]; exact h
theorem strB_eq (l : List UInt8) : (strB l).data.toList = l := strB_list l
/-- What is so of a directory behind an act. -/
def DirEnd (w : World) (b : Nat) (bl : List Nat) (l : Dir) (e : Ending) (w' : World) : Prop := e = .returned (.tuple #[]) ∧ DirAt w' b bl l.length (look l) ∧ w.grownBy w' (some b)

set_option maxRecDepth 100000 in
set_option maxHeartbeats 1000000 in
theorem put_any (b x y : Nat) (bl : List Nat) (l : Dir) (a : DAct) (w : World) (hD : DirAt w b bl l.length (look l)) (hs : SortedD l) (hn : l.length ≤ 1000000) (h0 : a.src = []) (h1 : a.dst ≠ []) (h2 : a.dst.length ≤ 80) (hnm : ∀ e ∈ l, e.1 ≠ [])
    (cx : w.cell? ⟨x, 0, none⟩ = some (.pointer (some ⟨bl.getD a.file 0, 0, none⟩))) (cy : w.cell? ⟨y, 0, none⟩ = some (.string (strB a.dst))) :
    Calls Try.prog 33 #[.map (some b), .pointer (some ⟨x, 0, none⟩), .pointer (some ⟨y, 0, none⟩)] w (DirEnd w b bl (turnD l a)) := by
  have HD := Lib.hid hD
  have HN := Lib.hid hn
  have HS := Lib.hid hs
  have E := Lib.hid (show ∀ w', DirAt w' b bl (l.length + 1) (fun t => if t = (strB a.dst).data.toList then some a.file else look l t) → DirAt w' b bl (turnD l a).length (look (turnD l a)) from fun w' h => by
    refine DirAt.tight (h.of_eq (fun t => ?_)) (sorted_turn HS.out a)
    rw [look_turn, strB_eq]
    by_cases ht : t = a.dst
    · rw [if_pos ⟨h1, ht⟩, if_pos ht]
    · rw [if_neg (fun e => ht e.2), if_neg ht]
      by_cases ht0 : t = a.src
      · rw [if_pos ht0, ht0, h0, look_none.2 hnm]
      · rw [if_neg ht0])
  have HZ := Lib.hid (show (strB a.dst).size ≤ 1000000 by rw [strB_size]; omega)
  generalize hq : strB a.dst = q at cy E HZ
  clear hD hn h1 h2 h0 hnm hs hq
  go_enter Try.func33, Try.ntmps33
  go_wp2_with (first | (at_mapUpdate; refine wl_put rfl _ _ _ rfl HD.out HN.out rfl q rfl HZ.out a.file rfl ?_; intro w1 hD1 hg1; have HD1 := Lib.hid hD1; have HG1 := Lib.hid hg1; clear hD1 hg1))
  refine bodyPost_ret (results_none rfl _ _ _) rfl ⟨rfl, E.out _ HD1.out, HG1.out⟩

set_option maxRecDepth 100000 in
set_option maxHeartbeats 1000000 in
theorem del_any (b x : Nat) (bl : List Nat) (l : Dir) (a : DAct) (w : World) (hD : DirAt w b bl l.length (look l)) (hs : SortedD l) (h1 : a.dst = []) (h2 : a.src.length ≤ 80)
    (cx : w.cell? ⟨x, 0, none⟩ = some (.string (strB a.src))) :
    Calls Try.prog 45 #[.map (some b), .pointer (some ⟨x, 0, none⟩)] w (DirEnd w b bl (turnD l a)) := by
  have HD := Lib.hid hD
  have HS := Lib.hid hs
  have E := Lib.hid (show ∀ w', DirAt w' b bl l.length (fun t => if t = (strB a.src).data.toList then none else look l t) → DirAt w' b bl (turnD l a).length (look (turnD l a)) from fun w' h => by
    refine DirAt.tight (h.of_eq (fun t => ?_)) (sorted_turn HS.out a)
    rw [look_turn, strB_eq, if_neg (c := a.dst ≠ [] ∧ t = a.dst) (fun e => e.1 h1)])
  have HZ := Lib.hid (show (strB a.src).size ≤ 1000000 by rw [strB_size]; omega)
  generalize hq : strB a.src = q at cx E HZ
  clear hD h1 h2 hs hq
  go_enter Try.func45, Try.ntmps45
  go_wp2_with (first | (at_delete; refine wl_del rfl _ _ rfl HD.out rfl q rfl HZ.out ?_; intro w1 hD1 hg1; have HD1 := Lib.hid hD1; have HG1 := Lib.hid hg1; clear hD1 hg1))
  refine bodyPost_ret (results_none rfl _ _ _) rfl ⟨rfl, E.out _ HD1.out, HG1.out⟩

set_option maxRecDepth 100000 in
set_option maxHeartbeats 1000000 in
theorem move_any (b x y : Nat) (bl : List Nat) (l : Dir) (a : DAct) (w : World) (hD : DirAt w b bl l.length (look l)) (hs : SortedD l) (hn : l.length ≤ 1000000) (hk : look l a.src = some a.file) (h1 : a.dst ≠ []) (h2 : a.dst.length ≤ 80) (h3 : a.src.length ≤ 80)
    (cx : w.cell? ⟨x, 0, none⟩ = some (.string (strB a.src))) (cy : w.cell? ⟨y, 0, none⟩ = some (.string (strB a.dst))) (hxb : w.heap[b]? ≠ w.heap[x]?) (hyb : w.heap[b]? ≠ w.heap[y]?) :
    Calls Try.prog 43 #[.map (some b), .pointer (some ⟨x, 0, none⟩), .pointer (some ⟨y, 0, none⟩)] w (DirEnd w b bl (turnD l a)) := by
  have HD := Lib.hid hD
  have HN := Lib.hid hn
  have HS := Lib.hid hs
  have E := Lib.hid (show ∀ w', DirAt w' b bl (l.length + 1) (fun t => if t = (strB a.dst).data.toList then some a.file else if t = (strB a.src).data.toList then none else look l t) → DirAt w' b bl (turnD l a).length (look (turnD l a)) from fun w' h => by
    refine DirAt.tight (h.of_eq (fun t => ?_)) (sorted_turn HS.out a)
    rw [look_turn, strB_eq, strB_eq]
    by_cases ht : t = a.dst
    · rw [if_pos ⟨h1, ht⟩, if_pos ht]
    · rw [if_neg (fun e => ht e.2), if_neg ht])
  have HZ := Lib.hid (show (strB a.dst).size ≤ 1000000 by rw [strB_size]; omega)
  have HY := Lib.hid (show (strB a.src).size ≤ 1000000 by rw [strB_size]; omega)
  have hlk := dir_look hD (strB a.src) (by rw [strB_size]; omega)
  rw [strB_eq, hk] at hlk
  simp only [ptrOf] at hlk
  have KX := Lib.hid (fun (w' : World) (hg : w.grownBy w' (some b)) => cell_same (w' := w') cx (hg.block x (World.block_lt_of_cell? _ _ cx) (fun e => hxb (by cases e; rfl))))
  have KY := Lib.hid (fun (w' : World) (hg : w.grownBy w' (some b)) => cell_same (w' := w') cy (hg.block y (World.block_lt_of_cell? _ _ cy) (fun e => hyb (by cases e; rfl))))
  generalize hq : strB a.dst = q at cy E HZ KY
  generalize hp : strB a.src = p at cx E HY KX hlk
  clear hD hn h1 h2 h3 hk hs hq hp hxb hyb
  go_enter Try.func43, Try.ntmps43
  go_wp2_with (first
    | (at_delete; refine wl_del rfl _ _ rfl HD.out rfl p rfl HY.out ?_; intro w1 hD1 hg1; have HD1 := Lib.hid hD1; have HG1 := Lib.hid hg1; have c2 := KY.out _ hg1; clear hD1 hg1)
    | (at_mapUpdate; refine wl_put rfl _ _ _ rfl HD1.out HN.out rfl q rfl HZ.out a.file rfl ?_; intro w2 hD2 hg2; have HD2 := Lib.hid hD2; have HG2 := Lib.hid (HG1.out.trans hg2); clear hD2 hg2))
  refine bodyPost_ret (results_none rfl _ _ _) rfl ⟨rfl, E.out _ HD2.out, HG2.out⟩
#print axioms move_any
end Go.Proofs.Ytemphljkfpkgmaa

namespace Go.Proofs.Ytemphljkfpkgmaa
open Go.RowKit Go.Maps

theorem infoFn : (Try.prog.info? 75).map (fun i => (i.zero, i.size, i.bytes)) = some (some .nilFunc, 1, 8) := by kernel_rfl
/-- An append of one act to the disk's acts, told. -/
theorem app_act {w : World} {ops : Array Oper} {rest : List Oper} {o : Oper} {a : Act} {Q : Exit → Act → World → Prop} (hgd : o.guard = none) (s x : Operand)
    (ho : o.op = .call { callee := .builtin .append, args := #[s, x], argTypes := #[48, 48] })
    (v : Value) (xs : List Value) (hs : a.eval s = v) (hown : w.ownsRow 0 75 1 v xs.length xs)
    (g : Nat) (y : Value) (hx : a.eval x = .slice (some ⟨g, 0, none⟩) 1 1) (hsrc : w.cell? ⟨g, 0, none⟩ = some y) (h1 : y.oneCell' = true) (hn : xs.length ≤ 1000000)
    (h : ∀ a' c' w', w'.ownsRow 0 75 1 (.slice a' (xs ++ [y]).length c') (xs ++ [y]).length (xs ++ [y]) → w.grownBy w' v.ownBlock → Told w v (.slice a' (xs ++ [y]).length c') → wpList Try.prog ops Q rest (a.put o.dst (.slice a' (xs ++ [y]).length c')) w') : wpList Try.prog ops Q (o :: rest) a w := by
  obtain ⟨i0, hi, hz0, hz1, hz2⟩ := info_parts infoFn
  obtain ⟨v', w', hrn, h5, h6, h7⟩ := run_append_tell (P := Try.prog) w 0 48 o.type 75 i0 .nilFunc 1 8 Try.underlying48 hi hz0 hz1 hz2 rfl (by decide) v xs.length xs hown
    ⟨g, 0, none⟩ 1 1 [y] (by simp) (fun j u hu => by
      cases j with
      | zero => simp only [List.getElem?_cons_zero, Option.some.injEq] at hu; subst hu; rw [Addr.add_lit]; exact hsrc
      | succ j => simp at hu) (fun u hu => by simp only [List.mem_singleton] at hu; subst hu; exact h1) (by unfold maxLen; omega) (by omega) (Nat.zero_le _)
  have e : xs.length + 1 = (xs ++ [y]).length := by simp
  rw [e] at h5
  have hsh : ∃ a' c', v' = .slice a' (xs ++ [y]).length c' := by
    rcases h5.2 with ⟨_, h0⟩ | ⟨g, cap, cur, rfl, _⟩
    · simp at h0
    · exact ⟨_, _, rfl⟩
  obtain ⟨a', c', rfl⟩ := hsh
  exact Lib.wpList_append_run w hgd s x _ _ ho _ _ hs hx _ _ hrn (h a' c' w' h5 h6 h7)

set_option maxRecDepth 100000 in
set_option maxHeartbeats 400000 in
theorem size_any (b n : Nat) (bl : List Nat) (g : Nm → Option Nat) (s : ByteArray) (w : World) (hD : DirAt w b bl n g) (hs : s.size ≤ 80) (o : Option Nat) (ho : g s.data.toList = o) (len : Nat)
    (hnone : o = none → len = 0) (hsome : ∀ k, o = some k → ∃ a c, w.cell? ⟨bl.getD k 0, 0, none⟩ = some (.slice a len c)) :
    Calls Try.prog 42 #[.map (some b), .string s] w fun e w' => e = .returned (.int .i64 (len : Int)) ∧ w = w' := by
  have hlk := dir_look hD s (by omega)
  rw [ho] at hlk
  clear hD ho
  cases o with
  | none =>
    obtain rfl := hnone rfl
    clear hnone hsome
    simp only [ptrOf] at hlk
    go_enter Try.func42, Try.ntmps42
    go_wp2
    go_ret
    exact ⟨rfl, rfl⟩
  | some k =>
    obtain ⟨a, c, hc⟩ := hsome k rfl
    clear hnone hsome
    simp only [ptrOf] at hlk
    generalize bl.getD k 0 = x at hlk hc
    go_enter Try.func42, Try.ntmps42
    go_wp2
    go_ret
    exact ⟨rfl, rfl⟩

theorem cell_one (w : World) (v : Value) (t : TypeId) : (w.alloc (.cells #[v] t)).cell? ⟨w.heap.size, 0, none⟩ = some v := by simp
/-- What change leaves. -/
def ChgEnd (F : Nat → Prop) (w : World) (db : Nat) (S : DS) (M : Mem) (a : DAct) (v : Value) (e : Ending) (w' : World) : Prop :=
  e = .returned (.tuple #[]) ∧ Chg F w w' ∧ (∀ x t cs, t ≠ 75 → t ≠ 50 → RowAt w x t cs → RowAt w' x t cs) ∧ ∃ av, DiskIn (Plus F w w') w' db (doneS S a) { M with av := av, fs := M.fs ++ [v] }

section
variable {F : Nat → Prop} {w w1 w2 : World} {db : Nat} {S : DS} {M : Mem} {a : DAct} {v : Value}
theorem chg_mid (h : DiskIn F w db S M) (hg1 : w.grownBy w1 (some M.bf)) : Chg F w w1 ∧ RowAt w1 db 50 (diskC S M) ∧ w1.ownsRow 0 75 1 M.av M.fs.length M.fs := by
  refine ⟨Chg.refl.grown hg1 (fun k hk => by cases hk; exact .inl h.inF.2.1), h.row.same (hg1.block db (h.lt _ h.inF.1) (fun e => by cases e; exact h.db_map h.now rfl)), rowOwn_same h.acts.own (fun r hr => hg1.block r (h.lt _ (h.acts.inF r hr)) (fun e => by cases e; exact h.av_map h.now hr))⟩
/-- The act is done to what is seen; now it waits for what is kept. -/
theorem chg_fin (h : DiskIn F w db S M) (hact : ActAt F w M.bl a v) (hd : DirAt w1 M.bf M.bl (turnD S.now a).length (look (turnD S.now a))) (hg1 : w.grownBy w1 (some M.bf)) {o : Obj} {a' : Option Addr} {c' : Nat}
    (hown : w2.ownsRow 0 75 1 (.slice a' (M.fs ++ [v]).length c') (M.fs ++ [v]).length (M.fs ++ [v])) (hg2 : (w1.alloc o).grownBy w2 M.av.ownBlock) (ht : Told (w1.alloc o) M.av (.slice a' (M.fs ++ [v]).length c')) :
    RowAt w2 db 50 (diskC S M) ∧ ChgEnd F w db S M a v (.returned (.tuple #[])) (w2.setCell ⟨db, 3, none⟩ (.slice a' (M.fs ++ [v]).length c')) := by
  obtain ⟨k1, r1, o1⟩ := chg_mid h hg1
  have s1 : w.heap.size ≤ w1.heap.size := hg1.size
  have s2 : w1.heap.size + 1 ≤ w2.heap.size := by have := hg2.size; simpa using this
  have hrow : RowAt w2 db 50 (diskC S M) := by
    have r1' : RowAt (w1.alloc o) db 50 (diskC S M) := r1.same (Below.heap_alloc _ _ _ r1.lt)
    exact r1'.same (hg2.block db r1'.lt (fun e => h.av_db e.symm))
  have k2 : Chg F w w2 := (k1.alloc o).grown hg2 (fun k hk => .inl (h.acts.inF k hk))
  have k3 : Chg F w (w2.setCell ⟨db, 3, none⟩ (.slice a' (M.fs ++ [v]).length c')) := k2.setCell (.inl h.inF.1) _
  -- what is neither the map seen, nor the disk's row, nor the row of acts, is as it was
  have kX : ∀ k, k < w.heap.size → k ≠ M.bf → k ≠ db → M.av.ownBlock ≠ some k → (w2.setCell ⟨db, 3, none⟩ (.slice a' (M.fs ++ [v]).length c')).heap[k]? = w.heap[k]? := by
    intro k hk h1 h2 h3
    rw [Below.heap_setCell _ _ _ _ h2, hg2.block k (by simp; omega) (fun e => h3 e.symm), Below.heap_alloc _ _ _ (by omega), hg1.block k hk (fun e => h1 (by cases e; rfl))]
  have sz : (w2.setCell ⟨db, 3, none⟩ (.slice a' (M.fs ++ [v]).length c')).heap.size = w2.heap.size := by simp [World.setCell]
  have hold : ∀ k, F k → Plus F w (w2.setCell ⟨db, 3, none⟩ (.slice a' (M.fs ++ [v]).length c')) k := fun _ h => .inl h
  have kT : ∀ x t cs, t ≠ 75 → t ≠ 50 → RowAt w x t cs → RowAt (w2.setCell ⟨db, 3, none⟩ (.slice a' (M.fs ++ [v]).length c')) x t cs := by
    intro x t cs h1 h2 hr
    refine hr.same (kX x hr.lt (ne_map hr h.now) (ne_of_types hr h.row h2) (fun e => ?_))
    obtain ⟨cur, hc⟩ := row_block h.acts.own e
    exact ne_of_types hr hc h1 rfl
  refine ⟨hrow, rfl, k3, kT, .slice a' (M.fs ++ [v]).length c', ?_⟩
  refine ⟨?_, h.files.same hold (fun k hk hb => kX k (h.lt k hk) (file_map hb h.now) (h.db_file hb) (h.av_file hb)), ⟨?_, ?_, fun i hi => ?_, fun r hr => ?_⟩, ?_, ?_, h.two, h.arm, h.armI, ⟨.inl h.inF.1, .inl h.inF.2.1, .inl h.inF.2.2⟩, fun k hk => ?_⟩
  · have := hrow.set 3 (.slice a' (M.fs ++ [v]).length c')
    exact this
  · simp [h.acts.len, doneS]
  · exact rowOwn_same hown (fun r hr => Below.heap_setCell _ _ _ _ (fun e => by
      simp only at e
      subst e
      obtain ⟨cur, hc⟩ := row_block hown hr
      exact ne_of_types hc hrow (by decide) rfl))
  · have hbx : ∀ k, F k → BoxB w k → (w2.setCell ⟨db, 3, none⟩ (.slice a' (M.fs ++ [v]).length c')).heap[k]? = w.heap[k]? := fun k hk hb => kX k (h.lt k hk) (box_map hb h.now) (h.db_box hb) (h.av_box hb)
    have hi' : i < S.acts.length ∨ i = S.acts.length := by simp [doneS] at hi; omega
    rcases hi' with h1 | rfl
    · have e1 : (doneS S a).acts.getD i ⟨[], [], 0⟩ = S.acts.getD i ⟨[], [], 0⟩ := by simp [doneS, List.getD_eq_getElem?_getD, List.getElem?_append_left h1]
      have e2 : (M.fs ++ [v]).getD i undef = M.fs.getD i undef := by simp [List.getD_eq_getElem?_getD, List.getElem?_append_left (show i < M.fs.length by rw [h.acts.len]; exact h1)]
      show ActAt _ _ _ ((doneS S a).acts.getD i ⟨[], [], 0⟩) ((M.fs ++ [v]).getD i undef)
      rw [e1, e2]
      exact (h.acts.act i h1).same hold hbx
    · have e1 : (doneS S a).acts.getD S.acts.length ⟨[], [], 0⟩ = a := by simp [doneS, List.getD_eq_getElem?_getD]
      have e2 : (M.fs ++ [v]).getD S.acts.length undef = v := by rw [← h.acts.len]; simp [List.getD_eq_getElem?_getD]
      show ActAt _ _ _ ((doneS S a).acts.getD S.acts.length ⟨[], [], 0⟩) ((M.fs ++ [v]).getD S.acts.length undef)
      rw [e1, e2]
      exact hact.same hold hbx
  · have hlt := (World.ownsRow.lt hown r hr).2
    rcases ht with e | ⟨k, hk, hle⟩
    · exact .inl (h.acts.inF r (by rw [← e]; exact hr))
    · rw [hk] at hr
      cases hr
      exact .inr ⟨by simp at hle; omega, by rw [sz]; exact hlt⟩
  · have hbf : M.bf < w1.heap.size := hd.lt
    have e1 : (w2.setCell ⟨db, 3, none⟩ (.slice a' (M.fs ++ [v]).length c')).heap[M.bf]? = w1.heap[M.bf]? := by
      rw [Below.heap_setCell _ _ _ _ (fun e => h.db_map h.now e.symm), hg2.block M.bf (by simp; omega) (fun e => h.av_map h.now e.symm), Below.heap_alloc _ _ _ hbf]
    exact hd.same e1
  · exact h.kept.same (kX M.bk (h.lt _ h.inF.2.2) (fun e => h.two e.symm) (fun e => h.db_map h.kept e.symm) (h.av_map h.kept))
  · rcases hk with hk | hk
    · have := h.lt k hk; rw [sz]; omega
    · exact hk.2
end
theorem map_ne_row {w : World} {b n x : Nat} {bl : List Nat} {g : Nm → Option Nat} {t : TypeId} {cs : List Value} (h : DirAt w b bl n g) (hx : RowAt w x t cs) : w.heap[b]? ≠ w.heap[x]? := by
  obtain ⟨D, ⟨es, clock, h3, _⟩, _⟩ := h
  intro e; rw [h3, hx] at e; cases e

set_option maxRecDepth 100000 in
set_option maxHeartbeats 1000000 in
theorem change_put {F : Nat → Prop} {w : World} {db : Nat} {S : DS} {M : Mem} (a : DAct) (x y : Nat) (h : DiskIn F w db S M) (hi : Inv S) (hn : S.kept.length + S.acts.length ≤ 1000000) (h0 : a.src = []) (h1 : a.dst ≠ []) (h2 : a.dst.length ≤ 80) (hx : F x) (hy : F y) (cx : RowAt w x 68 [Pt (M.bl.getD a.file 0)]) (cy : RowAt w y 9 [.string (strB a.dst)]) :
    Calls Try.prog 32 #[Pt db, .func (.func 33) #[] #[Pt x, Pt y]] w (ChgEnd F w db S M a (.func (.func 33) #[] #[Pt x, Pt y])) := by
  have hg := hi.now
  have hnl : S.now.length ≤ 1000000 := hi.nowLe hn
  have HC := Lib.hid (show Calls _ _ _ w (DirEnd w M.bf M.bl (turnD S.now a)) from put_any M.bf x y M.bl S.now a w h.now hg.sorted hnl h0 h1 h2 (fun e he => may_ne (hg.named e he)) (cx.cell 0 rfl) (cy.cell 0 rfl))
  obtain ⟨_, c1, _⟩ := h.facts
  have HA := Lib.hid (show ActAt F w M.bl a (.func (.func 33) #[] #[Pt x, Pt y]) from .inl ⟨h0, h1, h2, x, y, hx, hy, rfl, cx, cy⟩)
  have H := Lib.hid h
  have HL := Lib.hid (show M.fs.length ≤ 1000000 by rw [h.acts.len]; omega)
  have f3 := Lib.hid h.row
  clear h hi hn hg hnl h0 h1 h2 hx hy cx cy
  go_enter Try.func32, Try.ntmps32
  go_wp2_with (first
    | (go_at_call 33; (with_reducible refine HC.out.mono ?_); rintro e w1 ⟨rfl, hd1, hg1⟩; have HD1 := Lib.hid hd1; have HG1 := Lib.hid hg1; have K := Lib.hid (chg_mid H.out hg1); have e3 := K.out.2.1.cell 3 rfl; clear hd1 hg1)
    | (at_builtin; refine app_act rfl _ _ rfl M.av M.fs rfl (World.ownsRow.alloc K.out.2.2 _) w1.heap.size _ rfl (cell_one w1 _ _) rfl HL.out ?_; intro a' c' w2 ho2 hg2 ht2; have FIN := Lib.hid (chg_fin H.out HA.out HD1.out HG1.out ho2 hg2 ht2); have g3 := FIN.out.1.cell 3 rfl; have fr := FIN.out.1.free 3; clear ho2 hg2 ht2))
  have FE := FIN.out.2
  simp only [List.length_append, List.length_cons, List.length_nil, Nat.zero_add] at FE
  exact bodyPost_ret (results_none rfl _ _ _) rfl FE

set_option maxRecDepth 100000 in
set_option maxHeartbeats 1000000 in
theorem change_del {F : Nat → Prop} {w : World} {db : Nat} {S : DS} {M : Mem} (a : DAct) (x : Nat) (h : DiskIn F w db S M) (hi : Inv S) (hn : S.kept.length + S.acts.length ≤ 1000000) (h0 : a.src ≠ []) (h1 : a.dst = []) (h2 : a.src.length ≤ 80) (hx : F x) (cx : RowAt w x 9 [.string (strB a.src)]) :
    Calls Try.prog 32 #[Pt db, .func (.func 45) #[] #[Pt x]] w (ChgEnd F w db S M a (.func (.func 45) #[] #[Pt x])) := by
  have hg := hi.now
  have hnl : S.now.length ≤ 1000000 := hi.nowLe hn
  have HC := Lib.hid (show Calls _ _ _ w (DirEnd w M.bf M.bl (turnD S.now a)) from del_any M.bf x M.bl S.now a w h.now hg.sorted h1 h2 (cx.cell 0 rfl))
  obtain ⟨_, c1, _⟩ := h.facts
  have HA := Lib.hid (show ActAt F w M.bl a (.func (.func 45) #[] #[Pt x]) from .inr (.inr ⟨h0, h1, h2, x, hx, rfl, cx⟩))
  have H := Lib.hid h
  have HL := Lib.hid (show M.fs.length ≤ 1000000 by rw [h.acts.len]; omega)
  have f3 := Lib.hid h.row
  clear h hi hn hg hnl h0 h1 h2 hx cx
  go_enter Try.func32, Try.ntmps32
  go_wp2_with (first
    | (go_at_call 45; (with_reducible refine HC.out.mono ?_); rintro e w1 ⟨rfl, hd1, hg1⟩; have HD1 := Lib.hid hd1; have HG1 := Lib.hid hg1; have K := Lib.hid (chg_mid H.out hg1); have e3 := K.out.2.1.cell 3 rfl; clear hd1 hg1)
    | (at_builtin; refine app_act rfl _ _ rfl M.av M.fs rfl (World.ownsRow.alloc K.out.2.2 _) w1.heap.size _ rfl (cell_one w1 _ _) rfl HL.out ?_; intro a' c' w2 ho2 hg2 ht2; have FIN := Lib.hid (chg_fin H.out HA.out HD1.out HG1.out ho2 hg2 ht2); have g3 := FIN.out.1.cell 3 rfl; have fr := FIN.out.1.free 3; clear ho2 hg2 ht2))
  have FE := FIN.out.2
  simp only [List.length_append, List.length_cons, List.length_nil, Nat.zero_add] at FE
  exact bodyPost_ret (results_none rfl _ _ _) rfl FE

set_option maxRecDepth 100000 in
set_option maxHeartbeats 1000000 in
theorem change_move {F : Nat → Prop} {w : World} {db : Nat} {S : DS} {M : Mem} (a : DAct) (x y : Nat) (h : DiskIn F w db S M) (hi : Inv S) (hm : MayD S.now a) (hn : S.kept.length + S.acts.length ≤ 1000000) (h0 : a.src ≠ []) (h1 : a.dst ≠ []) (h2 : a.src.length ≤ 80) (h3 : a.dst.length ≤ 80) (hx : F x) (hy : F y) (cx : RowAt w x 9 [.string (strB a.src)]) (cy : RowAt w y 9 [.string (strB a.dst)]) :
    Calls Try.prog 32 #[Pt db, .func (.func 43) #[] #[Pt x, Pt y]] w (ChgEnd F w db S M a (.func (.func 43) #[] #[Pt x, Pt y])) := by
  have hg := hi.now
  have hnl : S.now.length ≤ 1000000 := hi.nowLe hn
  have HC := Lib.hid (show Calls _ _ _ w (DirEnd w M.bf M.bl (turnD S.now a)) from move_any M.bf x y M.bl S.now a w h.now hg.sorted hnl (hm.2.elim (fun e => absurd e.1 h0) And.right) h1 h3 h2 (cx.cell 0 rfl) (cy.cell 0 rfl) (map_ne_row h.now cx) (map_ne_row h.now cy))
  obtain ⟨_, c1, _⟩ := h.facts
  have HA := Lib.hid (show ActAt F w M.bl a (.func (.func 43) #[] #[Pt x, Pt y]) from .inr (.inl ⟨h0, h1, h2, h3, x, y, hx, hy, rfl, cx, cy⟩))
  have H := Lib.hid h
  have HL := Lib.hid (show M.fs.length ≤ 1000000 by rw [h.acts.len]; omega)
  have f3 := Lib.hid h.row
  clear h hi hm hn hg hnl h0 h1 h2 h3 hx hy cx cy
  go_enter Try.func32, Try.ntmps32
  go_wp2_with (first
    | (go_at_call 43; (with_reducible refine HC.out.mono ?_); rintro e w1 ⟨rfl, hd1, hg1⟩; have HD1 := Lib.hid hd1; have HG1 := Lib.hid hg1; have K := Lib.hid (chg_mid H.out hg1); have e3 := K.out.2.1.cell 3 rfl; clear hd1 hg1)
    | (at_builtin; refine app_act rfl _ _ rfl M.av M.fs rfl (World.ownsRow.alloc K.out.2.2 _) w1.heap.size _ rfl (cell_one w1 _ _) rfl HL.out ?_; intro a' c' w2 ho2 hg2 ht2; have FIN := Lib.hid (chg_fin H.out HA.out HD1.out HG1.out ho2 hg2 ht2); have g3 := FIN.out.1.cell 3 rfl; have fr := FIN.out.1.free 3; clear ho2 hg2 ht2))
  have FE := FIN.out.2
  simp only [List.length_append, List.length_cons, List.length_nil, Nat.zero_add] at FE
  exact bodyPost_ret (results_none rfl _ _ _) rfl FE
#print axioms change_move
#print axioms chg_fin
end Go.Proofs.Ytemphljkfpkgmaa

namespace Go.Proofs.Ytemphljkfpkgmaa
open Go.RowKit Go.Maps

def foldN (S : DS) (n : Nat) : Dir := (S.acts.take n).foldl turnD S.kept
def keptS (S : DS) (n : Nat) : DS := { S with kept := foldN S n, acts := [] }
theorem acts_at {F : Nat → Prop} {w : World} {bl : List Nat} {acts : List DAct} {av : Value} {fs : List Value} (h : ActsIn F w bl acts av fs) :
    ∃ a c, av = .slice a acts.length c ∧ acts.length ≤ c ∧ c ≤ 9223372036854775807 ∧ ((acts.length = 0 ∧ c = 0 ∧ a = none) ∨ ∃ g, a = some ⟨g, 0, none⟩ ∧ ∀ j, j < acts.length → w.cell? ⟨g, 0 + j, none⟩ = some (fs.getD j undef)) := by
  have h0 := h.own
  have hl := h.len
  obtain ⟨h1, h2⟩ := h0
  rcases h2 with ⟨rfl, hn⟩ | ⟨g, cap, cur, rfl, hb, hg, hn, hm, hs, ht⟩
  · exact ⟨none, 0, by rw [← hl, hn], by omega, by omega, .inl ⟨by omega, rfl, rfl⟩⟩
  · refine ⟨_, cap, by rw [hl], by omega, by unfold maxLen at hm; omega, .inr ⟨g, rfl, fun j hj => ?_⟩⟩
    have := h.own.cells (g := g) rfl j (fs.getD j undef) (by rw [List.getD_eq_getElem?_getD, List.getElem?_eq_getElem (by omega)]; rfl)
    rw [Addr.add_lit] at this
    exact this

/-- What keep leaves. -/
def KeepEnd (F : Nat → Prop) (w : World) (db : Nat) (S : DS) (M : Mem) (n : Nat) (e : Ending) (w' : World) : Prop :=
  e = .returned (.tuple #[]) ∧ Chg F w w' ∧ DiskIn F w' db (keptS S n) { M with av := .slice none 0 0, fs := [] }
section
variable {F : Nat → Prop} {w W : World} {db : Nat} {S : DS} {M : Mem}
theorem keep_mid (h : DiskIn F w db S M) (hg : w.grownBy W (some M.bk)) : RowAt W db 50 (diskC S M) :=
  h.row.same (hg.block db (h.lt _ h.inF.1) (fun e => by cases e; exact h.db_map h.kept rfl))
theorem keep_fin (h : DiskIn F w db S M) (n : Nat) (hg : w.grownBy W (some M.bk)) (hd : DirAt W M.bk M.bl (foldN S n).length (look (foldN S n))) : KeepEnd F w db S M n (.returned (.tuple #[])) (W.setCell ⟨db, 3, none⟩ (.slice none 0 0)) := by
  have hrow := keep_mid h hg
  have hk : Chg F w W := Chg.refl.grown hg (fun k hk => by cases hk; exact .inl h.inF.2.2)
  have kX : ∀ k, k < w.heap.size → k ≠ M.bk → k ≠ db → (W.setCell ⟨db, 3, none⟩ (.slice none 0 0)).heap[k]? = w.heap[k]? := by
    intro k hk h1 h2
    rw [Below.heap_setCell _ _ _ _ h2, hg.block k hk (fun e => h1 (by cases e; rfl))]
  have sz : w.heap.size ≤ (W.setCell ⟨db, 3, none⟩ (.slice none 0 0)).heap.size := by have := hg.size; simpa [World.setCell] using this
  refine ⟨rfl, hk.setCell (.inl h.inF.1) _, ?_, h.files.same (fun _ h => h) (fun k hk hb => kX k (h.lt k hk) (file_map hb h.kept) (h.db_file hb)), ActsIn.none_, ?_, ?_, h.two, h.arm, h.armI, h.inF, fun k hk => Nat.lt_of_lt_of_le (h.lt k hk) sz⟩
  · exact hrow.set 3 (.slice none 0 0)
  · exact h.now.same (kX M.bf (h.lt _ h.inF.2.1) h.two (fun e => h.db_map h.now e.symm))
  · exact hd.same (Below.heap_setCell _ _ _ _ (fun e => h.db_map h.kept e.symm))
end

theorem act_row {F : Nat → Prop} {w W : World} {db x : Nat} {S : DS} {M : Mem} {t : TypeId} {v : Value} (h : DiskIn F w db S M) (hg : w.grownBy W (some M.bk)) (hx : F x) (hr : RowAt w x t [v]) : RowAt W x t [v] :=
  hr.same (hg.block x (h.lt x hx) (fun e => by cases e; exact ne_map hr h.kept rfl))

set_option maxRecDepth 100000 in
set_option maxHeartbeats 2000000 in
theorem keep_any {F : Nat → Prop} {w : World} {db : Nat} {S : DS} {M : Mem} (n : Nat) (h : DiskIn F w db S M) (hi : Inv S) (hn : n ≤ S.acts.length) (hs : S.kept.length + S.acts.length ≤ 1000000) :
    Calls Try.prog 40 #[Pt db, .int .i64 (n : Int)] w (KeepEnd F w db S M n) := by
  have H := Lib.hid h
  have HI := Lib.hid hi
  have HN := Lib.hid hn
  have HS := Lib.hid hs
  obtain ⟨_, _, c2, c3, _⟩ := h.facts
  obtain ⟨a, c, hav, hc1, hc2, hcell⟩ := acts_at h.acts
  rw [hav] at c3
  have HCELL := Lib.hid hcell
  have hnc : n ≤ c := by omega
  have hncI : (n : Int) ≤ (c : Int) := by omega
  have H0 := Lib.hid (show w.grownBy w (some M.bk) ∧ DirAt w M.bk M.bl (foldN S 0).length (look (foldN S 0)) from ⟨⟨rfl, rfl, rfl, Nat.le_refl _, fun _ _ _ => rfl⟩, h.kept⟩)
  clear h hi hn hs hav hcell hc1
  go_enter Try.func40, Try.ntmps40
  go_wp2
  go_loopg [13] n (fun g v13 W => ∃ i : Nat, v13 = .int .i64 i ∧ g + i = n ∧ Hid (w.grownBy W (some M.bk) ∧ DirAt W M.bk M.bl (foldN S i).length (look (foldN S i))))
  case atStart => exact ⟨0, rfl, rfl, H0⟩
  case round =>
    obtain ⟨i, rfl, hg, hall⟩ := hrel
    have HG := Lib.hid hg
    have hi0 : (0 : Int) ≤ (i : Int) := by omega
    have hiI : (i : Int) ≤ (n : Int) := by omega
    have RW := Lib.hid (keep_mid H.out hall.out.1)
    have e2 := RW.out.cell 2 rfl
    clear hg
    by_cases hi : (i : Int) < (n : Int)
    · have hin : i < n := by omega
      have hia : i < S.acts.length := by have := HN.out; omega
      obtain ⟨g, rfl, hcl⟩ : ∃ g, a = some ⟨g, 0, none⟩ ∧ ∀ j, j < S.acts.length → w.cell? ⟨g, 0 + j, none⟩ = some (M.fs.getD j undef) := by
        rcases HCELL.out with ⟨h0, _⟩ | h0
        · omega
        · exact h0
      have hci := hcl i hia
      have hact := H.out.acts.act i hia
      have hgoodL := (HI.out.runs.ahead i).good HI.out.good
      have hlen : (foldN S i).length ≤ 1000000 := by
        have h1 := fold_length (S.acts.take i) S.kept
        have h2 : (S.acts.take i).length ≤ S.acts.length := by rw [List.length_take]; omega
        have := HS.out
        unfold foldN
        omega
      have hmay : MayD (foldN S i) (S.acts.getD i ⟨[], [], 0⟩) := by
        have := HI.out.runs.step hia
        rw [List.getD_eq_getElem?_getD, List.getElem?_eq_getElem hia]
        exact this
      have ESUCC : foldN S (i + 1) = turnD (foldN S i) (S.acts.getD i ⟨[], [], 0⟩) := by
        rw [List.getD_eq_getElem?_getD, List.getElem?_eq_getElem hia]
        exact take_fold_succ hia S.kept
      have HSUCC := Lib.hid ESUCC
      have hcg : ∀ W : World, w.grownBy W (some M.bk) → W.cell? ⟨g, 0 + i, none⟩ = some (M.fs.getD i undef) := fun W hW => by
        refine cell_same hci (hW.block g (World.block_lt_of_cell? _ _ hci) (fun e => ?_))
        cases e
        obtain ⟨D, ⟨es, clock, h3, _⟩, _⟩ := H.out.kept
        simp [World.cell?, h3] at hci
      have hc4 := hcg wr hall.out.1
      rw [Nat.zero_add] at hc4
      have HGR := Lib.hid hall.out.1
      have HIN := Lib.hid hin
      generalize hA : S.acts.getD i ⟨[], [], 0⟩ = A at hact hmay HSUCC
      generalize hV : M.fs.getD i undef = V at hact hc4
      have HNM := Lib.hid (fun e (he : e ∈ foldN S i) => may_ne (hgoodL.named e he))
      have HSO := Lib.hid hgoodL.sorted
      have HL := Lib.hid hlen
      clear ESUCC hA hV hcg hci hcl hgoodL hlen
      rcases hact with ⟨q0, q1, q2, x, y, hx, hy, rfl, r1, r2⟩ | ⟨q0, q1, q2, q3, x, y, hx, hy, rfl, r1, r2⟩ | ⟨q0, q1, q2, x, hx, rfl, r1⟩
      · have P := Lib.hid (put_any M.bk x y M.bl (foldN S i) A wr hall.out.2 HSO.out HL.out q0 q1 q2 HNM.out ((act_row H.out HGR.out hx r1).cell 0 rfl) ((act_row H.out HGR.out hy r2).cell 0 rfl))
        clear q0 q1 q2 hx hy r1 r2 hmay
        go_wp2_with (first | (go_at_call 33; (with_reducible refine P.out.mono ?_); rintro e w1 ⟨rfl, hd1, hg1⟩; have HD1 := Lib.hid hd1; have HG1 := Lib.hid hg1; clear hd1 hg1))
        go_roundg (gk - 1)
        case measure => have := HG.out; have := HIN.out; omega
        case rel => exact ⟨i + 1, by go_num, by have := HG.out; have := HIN.out; omega, Lib.hid ⟨HGR.out.trans HG1.out, by rw [HSUCC.out]; exact HD1.out⟩⟩
      · have P := Lib.hid (move_any M.bk x y M.bl (foldN S i) A wr hall.out.2 HSO.out HL.out (hmay.2.elim (fun e => absurd e.1 q0) And.right) q1 q3 q2 ((act_row H.out HGR.out hx r1).cell 0 rfl) ((act_row H.out HGR.out hy r2).cell 0 rfl) (map_ne_row hall.out.2 (act_row H.out HGR.out hx r1)) (map_ne_row hall.out.2 (act_row H.out HGR.out hy r2)))
        clear q0 q1 q2 q3 hx hy r1 r2 hmay
        go_wp2_with (first | (go_at_call 43; (with_reducible refine P.out.mono ?_); rintro e w1 ⟨rfl, hd1, hg1⟩; have HD1 := Lib.hid hd1; have HG1 := Lib.hid hg1; clear hd1 hg1))
        go_roundg (gk - 1)
        case measure => have := HG.out; have := HIN.out; omega
        case rel => exact ⟨i + 1, by go_num, by have := HG.out; have := HIN.out; omega, Lib.hid ⟨HGR.out.trans HG1.out, by rw [HSUCC.out]; exact HD1.out⟩⟩
      · have P := Lib.hid (del_any M.bk x M.bl (foldN S i) A wr hall.out.2 HSO.out q1 q2 ((act_row H.out HGR.out hx r1).cell 0 rfl))
        clear q0 q1 q2 hx r1 hmay
        go_wp2_with (first | (go_at_call 45; (with_reducible refine P.out.mono ?_); rintro e w1 ⟨rfl, hd1, hg1⟩; have HD1 := Lib.hid hd1; have HG1 := Lib.hid hg1; clear hd1 hg1))
        go_roundg (gk - 1)
        case measure => have := HG.out; have := HIN.out; omega
        case rel => exact ⟨i + 1, by go_num, by have := HG.out; have := HIN.out; omega, Lib.hid ⟨HGR.out.trans HG1.out, by rw [HSUCC.out]; exact HD1.out⟩⟩
    · have hin : i = n := by omega
      have FIN := Lib.hid (keep_fin H.out n hall.out.1 (by rw [← hin]; exact hall.out.2))
      have fr := RW.out.free 3
      have e3 := RW.out.cell 3 rfl
      go_wp2
      exact bodyPost_ret (results_none rfl _ _ _) rfl FIN.out
#print axioms keep_any
end Go.Proofs.Ytemphljkfpkgmaa

namespace Go.Proofs.Ytemphljkfpkgmaa
open Go.RowKit Go.Maps

theorem wl_max {P : Program} {w : World} {ops : Array Oper} {rest : List Oper} {o : Oper} {a : Act} {Q : Exit → Act → World → Prop} (hgd : o.guard = none) (x y : Operand) (ats : Array TypeId)
    (ho : o.op = .call { callee := .builtin .max, args := #[x, y], argTypes := ats }) (X Y Z : Int) (hx : a.eval x = .int .i64 X) (hy : a.eval y = .int .i64 Y) (hz : Z = if X < Y then Y else X)
    (h : wpList P ops Q rest (a.put o.dst (.int .i64 Z)) w) : wpList P ops Q (o :: rest) a w := by
  refine wpList_ok hgd (v := .int .i64 Z) ?_ h
  subst hz
  obtain ⟨dst, op, ty, pos, after, guard⟩ := o
  subst ho
  simp only [BigFrame.execOp_builtin, BigFrame.builtin_max]
  simp [hx, hy, Builtin.max_, Builtin.max2]

section
variable {F : Nat → Prop} {w : World} {db : Nat} {S : DS} {M : Mem}
theorem down_fin (h : DiskIn F w db S M) (ha : S.arm = 1) : Chg F w (w.setCell ⟨db, 7, none⟩ (.bool true)) ∧ DiskIn F (w.setCell ⟨db, 7, none⟩ (.bool true)) db (armS S) M := by
  have kX : ∀ k, k ≠ db → (w.setCell ⟨db, 7, none⟩ (.bool true)).heap[k]? = w.heap[k]? := fun k h2 => Below.heap_setCell _ _ _ _ h2
  have sz : (w.setCell ⟨db, 7, none⟩ (.bool true)).heap.size = w.heap.size := by simp [World.setCell]
  refine ⟨Chg.refl.setCell (.inl h.inF.1) _, ?_, h.files.same (fun _ h => h) (fun k _ hb => kX k (h.db_file hb)), h.acts.same (fun _ h => h) (fun r hr => kX r (fun e => h.av_db (e ▸ hr))) (fun k _ hb => kX k (h.db_box hb)), h.now.same (kX _ (fun e => h.db_map h.now e.symm)), h.kept.same (kX _ (fun e => h.db_map h.kept e.symm)), h.two, fun e => ?_, h.armI, h.inF, fun k hk => by rw [sz]; exact h.lt k hk⟩
  · have := h.row.set 7 (.bool true)
    have e : (armS S).down = true := by simp [armS, ha]
    show RowAt _ _ _ (diskC (armS S) M)
    unfold diskC
    rw [e]
    exact this
  · simp [armS, ha] at e
theorem go_fin (h : DiskIn F w db S M) (hd : S.down = false) (ha : S.arm ≠ 1) : Chg F w (w.setCell ⟨db, 6, none⟩ (.int .i64 ((S.arm - 1 : Nat) : Int))) ∧ DiskIn F (w.setCell ⟨db, 6, none⟩ (.int .i64 ((S.arm - 1 : Nat) : Int))) db (armS S) { M with armed := S.arm - 1 } := by
  have kX : ∀ k, k ≠ db → (w.setCell ⟨db, 6, none⟩ (.int .i64 ((S.arm - 1 : Nat) : Int))).heap[k]? = w.heap[k]? := fun k h2 => Below.heap_setCell _ _ _ _ h2
  have sz : (w.setCell ⟨db, 6, none⟩ (.int .i64 ((S.arm - 1 : Nat) : Int))).heap.size = w.heap.size := by simp [World.setCell]
  refine ⟨Chg.refl.setCell (.inl h.inF.1) _, ?_, h.files.same (fun _ h => h) (fun k _ hb => kX k (h.db_file hb)), h.acts.same (fun _ h => h) (fun r hr => kX r (fun e => h.av_db (e ▸ hr))) (fun k _ hb => kX k (h.db_box hb)), h.now.same (kX _ (fun e => h.db_map h.now e.symm)), h.kept.same (kX _ (fun e => h.db_map h.kept e.symm)), h.two, fun _ => rfl, ?_, h.inF, fun k hk => by rw [sz]; exact h.lt k hk⟩
  · have := h.row.set 6 (.int .i64 ((S.arm - 1 : Nat) : Int))
    have e : (armS S).down = S.down := by simp [armS, ha, hd]
    show RowAt _ _ _ (diskC (armS S) _)
    unfold diskC
    rw [e]
    exact this
  · have := h.armI; have := h.arm hd; show S.arm - 1 ≤ _; omega
end

set_option maxRecDepth 100000 in
set_option maxHeartbeats 400000 in
theorem act_down {F : Nat → Prop} {w : World} {db : Nat} {S : DS} {M : Mem} (v : Value) (h : DiskIn F w db S M) (hd : S.down = false) (ha : S.arm = 1) :
    Calls Try.prog 30 #[Pt db, v] w fun e w' => e = .returned (.int .i64 9) ∧ Chg F w w' ∧ DiskIn F w' db (armS S) M := by
  have FIN := Lib.hid (down_fin h ha)
  have c6 := h.facts.2.2.2.2.2.2.1
  have e7 := h.facts.2.2.2.2.2.2.2
  rw [h.arm hd, ha] at c6
  have f7 := h.row.free 7
  clear h hd ha
  go_enter Try.func30, Try.ntmps30
  go_wp2
  go_ret
  exact ⟨rfl, FIN.out⟩

set_option maxRecDepth 100000 in
set_option maxHeartbeats 400000 in
theorem act_append {F : Nat → Prop} {w : World} {db : Nat} {S : DS} {M : Mem} (p q r s : Nat) (h : DiskIn F w db S M) (hd : S.down = false) (ha : S.arm ≠ 1) {Q : World → Prop}
    (hK : Calls Try.prog 31 #[Pt p, Pt q, Pt r, Pt s] (w.setCell ⟨db, 6, none⟩ (.int .i64 ((S.arm - 1 : Nat) : Int))) fun e w' => e = .returned (.tuple #[]) ∧ Q w') :
    Calls Try.prog 30 #[Pt db, .func (.func 31) #[] #[Pt p, Pt q, Pt r, Pt s]] w fun e w' => e = .returned (.int .i64 0) ∧ Q w' := by
  have HK := Lib.hid hK
  have c6 := h.facts.2.2.2.2.2.2.1
  rw [h.arm hd] at c6
  have f6 := h.row.free 6
  have hI := h.armI
  rw [h.arm hd] at hI
  have hnI : ((S.arm : Int) == 1) = false := by simp; omega
  have hz : ((S.arm - 1 : Nat) : Int) = if (S.arm : Int) - 1 < 0 then 0 else (S.arm : Int) - 1 := by split <;> omega
  generalize ((S.arm - 1 : Nat) : Int) = z at HK hz
  have HZ := Lib.hid hz
  have l1 : (0 : Int) ≤ (S.arm : Int) := by omega
  have l2 : (S.arm : Int) ≤ 9223372036854775807 := by omega
  clear h hd hK hz hI ha
  generalize (S.arm : Int) = m at c6 hnI HZ l1 l2
  go_enter Try.func30, Try.ntmps30
  go_wp2_with (first
    | (refine wl_max rfl _ _ _ rfl (m - 1) 0 z rfl rfl HZ.out ?_)
    | (go_at_call 31; (with_reducible refine HK.out.mono ?_); rintro e w1 ⟨rfl, hq⟩; have HQ := Lib.hid hq; clear hq))
  go_ret
  exact ⟨rfl, HQ.out⟩

set_option maxRecDepth 100000 in
set_option maxHeartbeats 400000 in
theorem act_sync {F : Nat → Prop} {w : World} {db : Nat} {S : DS} {M : Mem} (p q : Nat) (h : DiskIn F w db S M) (hd : S.down = false) (ha : S.arm ≠ 1) {Q : World → Prop}
    (hK : Calls Try.prog 39 #[Pt p, Pt q] (w.setCell ⟨db, 6, none⟩ (.int .i64 ((S.arm - 1 : Nat) : Int))) fun e w' => e = .returned (.tuple #[]) ∧ Q w') :
    Calls Try.prog 30 #[Pt db, .func (.func 39) #[] #[Pt p, Pt q]] w fun e w' => e = .returned (.int .i64 0) ∧ Q w' := by
  have HK := Lib.hid hK
  have c6 := h.facts.2.2.2.2.2.2.1
  rw [h.arm hd] at c6
  have f6 := h.row.free 6
  have hI := h.armI
  rw [h.arm hd] at hI
  have hnI : ((S.arm : Int) == 1) = false := by simp; omega
  have hz : ((S.arm - 1 : Nat) : Int) = if (S.arm : Int) - 1 < 0 then 0 else (S.arm : Int) - 1 := by split <;> omega
  generalize ((S.arm - 1 : Nat) : Int) = z at HK hz
  have HZ := Lib.hid hz
  have l1 : (0 : Int) ≤ (S.arm : Int) := by omega
  have l2 : (S.arm : Int) ≤ 9223372036854775807 := by omega
  clear h hd hK hz hI ha
  generalize (S.arm : Int) = m at c6 hnI HZ l1 l2
  go_enter Try.func30, Try.ntmps30
  go_wp2_with (first
    | (refine wl_max rfl _ _ _ rfl (m - 1) 0 z rfl rfl HZ.out ?_)
    | (go_at_call 39; (with_reducible refine HK.out.mono ?_); rintro e w1 ⟨rfl, hq⟩; have HQ := Lib.hid hq; clear hq))
  go_ret
  exact ⟨rfl, HQ.out⟩

set_option maxRecDepth 100000 in
set_option maxHeartbeats 400000 in
theorem act_remove {F : Nat → Prop} {w : World} {db : Nat} {S : DS} {M : Mem} (p q : Nat) (h : DiskIn F w db S M) (hd : S.down = false) (ha : S.arm ≠ 1) {Q : World → Prop}
    (hK : Calls Try.prog 44 #[Pt p, Pt q] (w.setCell ⟨db, 6, none⟩ (.int .i64 ((S.arm - 1 : Nat) : Int))) fun e w' => e = .returned (.tuple #[]) ∧ Q w') :
    Calls Try.prog 30 #[Pt db, .func (.func 44) #[] #[Pt p, Pt q]] w fun e w' => e = .returned (.int .i64 0) ∧ Q w' := by
  have HK := Lib.hid hK
  have c6 := h.facts.2.2.2.2.2.2.1
  rw [h.arm hd] at c6
  have f6 := h.row.free 6
  have hI := h.armI
  rw [h.arm hd] at hI
  have hnI : ((S.arm : Int) == 1) = false := by simp; omega
  have hz : ((S.arm - 1 : Nat) : Int) = if (S.arm : Int) - 1 < 0 then 0 else (S.arm : Int) - 1 := by split <;> omega
  generalize ((S.arm - 1 : Nat) : Int) = z at HK hz
  have HZ := Lib.hid hz
  have l1 : (0 : Int) ≤ (S.arm : Int) := by omega
  have l2 : (S.arm : Int) ≤ 9223372036854775807 := by omega
  clear h hd hK hz hI ha
  generalize (S.arm : Int) = m at c6 hnI HZ l1 l2
  go_enter Try.func30, Try.ntmps30
  go_wp2_with (first
    | (refine wl_max rfl _ _ _ rfl (m - 1) 0 z rfl rfl HZ.out ?_)
    | (go_at_call 44; (with_reducible refine HK.out.mono ?_); rintro e w1 ⟨rfl, hq⟩; have HQ := Lib.hid hq; clear hq))
  go_ret
  exact ⟨rfl, HQ.out⟩

set_option maxRecDepth 100000 in
set_option maxHeartbeats 400000 in
theorem act_rename {F : Nat → Prop} {w : World} {db : Nat} {S : DS} {M : Mem} (p q r : Nat) (h : DiskIn F w db S M) (hd : S.down = false) (ha : S.arm ≠ 1) {Q : World → Prop}
    (hK : Calls Try.prog 41 #[Pt p, Pt q, Pt r] (w.setCell ⟨db, 6, none⟩ (.int .i64 ((S.arm - 1 : Nat) : Int))) fun e w' => e = .returned (.tuple #[]) ∧ Q w') :
    Calls Try.prog 30 #[Pt db, .func (.func 41) #[] #[Pt p, Pt q, Pt r]] w fun e w' => e = .returned (.int .i64 0) ∧ Q w' := by
  have HK := Lib.hid hK
  have c6 := h.facts.2.2.2.2.2.2.1
  rw [h.arm hd] at c6
  have f6 := h.row.free 6
  have hI := h.armI
  rw [h.arm hd] at hI
  have hnI : ((S.arm : Int) == 1) = false := by simp; omega
  have hz : ((S.arm - 1 : Nat) : Int) = if (S.arm : Int) - 1 < 0 then 0 else (S.arm : Int) - 1 := by split <;> omega
  generalize ((S.arm - 1 : Nat) : Int) = z at HK hz
  have HZ := Lib.hid hz
  have l1 : (0 : Int) ≤ (S.arm : Int) := by omega
  have l2 : (S.arm : Int) ≤ 9223372036854775807 := by omega
  clear h hd hK hz hI ha
  generalize (S.arm : Int) = m at c6 hnI HZ l1 l2
  go_enter Try.func30, Try.ntmps30
  go_wp2_with (first
    | (refine wl_max rfl _ _ _ rfl (m - 1) 0 z rfl rfl HZ.out ?_)
    | (go_at_call 41; (with_reducible refine HK.out.mono ?_); rintro e w1 ⟨rfl, hq⟩; have HQ := Lib.hid hq; clear hq))
  go_ret
  exact ⟨rfl, HQ.out⟩
#print axioms act_rename
end Go.Proofs.Ytemphljkfpkgmaa
