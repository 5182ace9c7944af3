/-
  The walk of Sync and of its closure.
-/
import Derived.Test.YtemphljkfpkgmaaDkAppAll
import Derived.Test.YtemphljkfpkgmaaDkActAll
namespace Go.Proofs.Ytemphljkfpkgmaa
open Go.RowKit Go.Maps

def synF (S : DS) (k : Nat) : DS := { S with files := S.files.modify k fun x => (x.1, x.1.length) }
theorem keep_is {S : DS} (h : Inv S) (k : Nat) : keptS (synF S k) S.acts.length = keepS S k := by
  have e : foldN (synF S k) S.acts.length = S.now := by
    show (S.acts.take S.acts.length).foldl turnD S.kept = S.now
    rw [List.take_length]; exact h.runs.fold
  unfold keptS
  rw [e]
  rfl
theorem inv_syn {S : DS} (h : Inv S) (k : Nat) : Inv (synF S k) := by
  refine ⟨h.good, h.runs, fun e he => by simpa [synF] using h.kids e he, fun a ha => by simpa [synF] using h.aids a ha, fun x hx => ?_, h.most⟩
  obtain ⟨i, hi, rfl⟩ := List.mem_iff_getElem.1 hx
  simp only [synF, List.length_modify] at hi
  have h1 := h.syn _ (List.getElem_mem hi)
  simp only [synF, List.getElem_modify]
  split
  · exact ⟨Nat.le_refl _, h1.2⟩
  · exact h1
theorem used_keep {S : DS} (k : Nat) : usedS (keepS S k) = usedS S := by
  show usedOf (S.files.modify k _) S.now = usedOf S.files S.now
  unfold usedOf
  congr 1
  refine List.map_congr_left fun e _ => ?_
  simp only [List.getD_eq_getElem?_getD, List.getElem?_modify]
  split <;> cases S.files[e.2]? <;> rfl
theorem Chg.undrew {X : Nat → Prop} {w w' : World} (h : Chg X w.drew w') : Chg X w w' := ⟨h.os, h.tape, h.output, h.size, h.block⟩
section
variable {F : Nat → Prop} {w W w' : World} {db : Nat} {S : DS} {M : Mem}
theorem syn_fin (h : DiskIn F w db S M) {k : Nat} (hk : k < S.files.length) {n : Nat} (hn : n = (S.files.getD k ([], 0)).1.length) (hw : SameW (w.setCell ⟨M.bl.getD k 0, 1, none⟩ (.int .i64 (n : Int))) w') : Chg F w w' ∧ DiskIn F w' db (synF S k) M := by
  have hfr := h.files.row k hk
  have hfb : FileB w (M.bl.getD k 0) := ⟨_, .inl hfr⟩
  have kX : ∀ r, r ≠ M.bl.getD k 0 → w'.heap[r]? = w.heap[r]? := fun r h1 => by rw [hw.heap, Below.heap_setCell _ _ _ _ h1]
  have sz : w'.heap.size = w.heap.size := by rw [hw.heap]; simp [World.setCell]
  have gf : ∀ i, (synF S k).files.getD i ([], 0) = if i = k then ((S.files.getD k ([], 0)).1, n) else S.files.getD i ([], 0) := by
    intro i
    simp only [synF, List.getD_eq_getElem?_getD, List.getElem?_modify]
    by_cases e : i = k
    · subst e; subst hn; simp [List.getElem?_eq_getElem hk]
    · have e2 : ¬ k = i := fun h => e h.symm
      rw [if_neg e]; simp [e2]
  refine ⟨(Chg.refl.setCell (.inl (h.files.inF k hk).1) _).sameW hw, h.row.same (kX _ (h.db_file hfb).symm), ?_, h.acts.same (fun _ h => h) (fun r hr => kX r (fun e => h.av_file hfb (e ▸ hr))) (fun r _ hb => kX r (box_file hb hfb)), h.now.same (kX _ (file_map hfb h.now).symm), h.kept.same (kX _ (file_map hfb h.kept).symm), h.two, h.arm, h.armI, h.inF, fun r hr => by rw [sz]; exact h.lt r hr⟩
  refine h.files.upd (fun _ h => h) hk (v' := M.vs.getD k undef) (x' := ((S.files.getD k ([], 0)).1, n)) (by simp [synF]) gf rfl (fun i => ?_) ?_ ((h.files.own k hk).same (fun q hq => kX q (fun e => ?_))) h.lt (fun r hr => ⟨(h.files.inF k hk).2 r hr, .inl hr⟩) (fun r _ _ h1 _ => kX r h1)
  · by_cases e : i = k
    · subst e; rw [if_pos rfl]
    · rw [if_neg e]
  · exact (hfr.set 1 (.int .i64 (n : Int))).same (by rw [hw.heap])
  · obtain ⟨cur, hc⟩ := row_block (h.files.own k hk) hq
    exact ne_of_types hfr hc (by decide) e.symm
end

set_option maxRecDepth 100000 in
set_option maxHeartbeats 2000000 in
theorem syncC {F : Nat → Prop} {w : World} {db : Nat} {S : DS} {M : Mem} (fb xb : Nat) (h : DiskIn F w db S M) (hi : Inv S) (k : Nat) (hk : k < S.files.length) (hs : S.kept.length + S.acts.length ≤ 1000000)
    (rf : RowAt w fb 68 [Pt (M.bl.getD k 0)]) (rx : RowAt w xb 24 [Pt db]) :
    Calls Try.prog 39 #[Pt fb, Pt xb] w fun e w' => e = .returned (.tuple #[]) ∧ Chg F w w' ∧ DiskIn F w' db (keepS S k) { M with av := .slice none 0 0, fs := [] } := by
  obtain ⟨fa, fn, fc, hv, hfb⟩ := (h.files.own k hk).bytes
  have hfr := h.files.row k hk
  have HFR := Lib.hid hfr
  rw [hv] at hfr
  have c1 := rf.cell 0 rfl
  have c2 := rx.cell 0 rfl
  have c4 := hfr.cell 0 rfl
  have c5 := hfr.cell 1 rfl
  have f5 := hfr.free 1
  have hfl : fn = (S.files.getD k ([], 0)).1.length := by rw [hfb.1]
  have SY := Lib.hid (fun w' hw => syn_fin h hk (w' := w') hfl hw)
  obtain ⟨aa, ac, hav, _⟩ := acts_at h.acts
  have RD := Lib.hid h.row
  have RX := Lib.hid rx
  have HX := Lib.hid (ne_of_types rx hfr (by decide))
  have HD := Lib.hid (ne_of_types h.row hfr (by decide))
  have HI := Lib.hid (inv_syn hi k)
  have HS := Lib.hid hs
  have HK := Lib.hid (keep_is hi k)
  have HAV := Lib.hid hav
  clear h hi hk hs rf rx hv hfb hfr hfl hav
  generalize hx : M.bl.getD k 0 = x at *
  clear hx
  go_enter Try.func39, Try.ntmps39
  go_wp2
  go_still_tail 8, (by kernel_rfl)
  change wpList _ _ _ _ _ w.drew
  go_wp2
  obtain ⟨W, hW⟩ : ∃ W, W = (w.setCell ⟨x, 1, none⟩ (.int .i64 (fn : Int))).drew := ⟨_, rfl⟩
  have SW := SY.out W ⟨by rw [hW]; rfl, by rw [hW]; rfl, by rw [hW]; rfl, by rw [hW]; rfl⟩
  have KE := Lib.hid (keep_any (w := W.drew) (M := M) S.acts.length (SW.2.sameW ⟨rfl, rfl, rfl, rfl⟩) HI.out (Nat.le_refl _) HS.out)
  have K1 := Lib.hid SW.1
  have rd := SW.2.row
  have g3 := rd.cell 3 rfl
  rw [HAV.out] at g3
  have gx := ((RX.out.other (a := ⟨x, 1, none⟩) HX.out (.int .i64 (fn : Int))).same (w' := W) (by rw [hW]; rfl)).cell 0 rfl
  rw [← hW]
  clear hW SW rd
  go_still_tail 6, (by kernel_rfl)
  change wpList _ _ _ _ _ W.drew
  go_wp2_with (first | (go_at_call 40; (with_reducible refine KE.out.mono ?_); rintro e w9 ⟨rfl, k9, d9⟩; have K9 := Lib.hid (K1.out.trans (Chg.undrew k9)); have D9 := Lib.hid d9; clear k9 d9))
  have D := D9.out
  rw [HK.out] at D
  first
    | exact bodyPost_end (results_none rfl _ _ _) rfl ⟨rfl, K9.out, D⟩
    | exact bodyPost_ret (results_none rfl _ _ _) rfl ⟨rfl, K9.out, D⟩

theorem sync_ok {S : DS} {s : Nm} {k : Nat} (h0 : S.down = false) (hm : mayN s = true) (hk : look S.now s = some k) : syncS S s = if armF S then (armS S, 9) else (keepS (armS S) k, 0) := by
  unfold syncS
  rw [ready_eq, h0, hm, hk]
  rfl
theorem sync_err {S : DS} {s : Nm} {z : Nat} (hz : findE S [s] = z) (h0 : z ≠ 0) : syncS S s = (S, z) := by
  unfold findE at hz
  unfold syncS
  rw [ready_eq]
  simp only [List.all_cons, List.all_nil, Bool.and_true] at hz
  cases hd : S.down <;> rw [hd] at hz
  · cases hm : mayN s <;> rw [hm] at hz
    · simp at hz; subst hz; rfl
    · simp only [Bool.false_eq_true, if_false, if_true, List.getD_cons_zero] at hz
      cases hk : look S.now s with
      | none => rw [hk] at hz; simp at hz; subst hz; rfl
      | some k => rw [hk] at hz; simp at hz; omega
  · simp at hz; subst hz; rfl
abbrev w2s (w : World) (db : Nat) (s : ByteArray) : World := (w.alloc (.cells #[Pt db] 24)).alloc (.cells #[.string s] 9)
theorem w2s_chg (w : World) (db : Nat) (s : ByteArray) : Chg (fun _ => False) w (w2s w db s) := (Chg.refl.alloc _).alloc _
theorem w3s_facts {w : World} {db : Nat} {s : ByteArray} (q : Nat) (p : Option Addr) : Chg (fun _ => False) w (((w2s w db s).drewN q).alloc (.cells #[.pointer p] 68)) ∧
    RowAt (((w2s w db s).drewN q).alloc (.cells #[.pointer p] 68)) w.heap.size 24 [Pt db] ∧
    RowAt (((w2s w db s).drewN q).alloc (.cells #[.pointer p] 68)) (w.heap.size + 1 + 1) 68 [.pointer p] := by
  have s1 : ∀ (w : World) (o : Obj), (w.alloc o).heap.size = w.heap.size + 1 := fun w o => by simp
  have e0 := row_new1 w (Pt db) 24
  have e4 := row_new1 ((w2s w db s).drewN q) (.pointer p) 68
  rw [show ((w2s w db s).drewN q).heap.size = (w2s w db s).heap.size from rfl, s1, s1] at e4
  exact ⟨((w2s_chg w db s).drewN q).alloc _, row_up (row_dn q (row_up e0 _)) _, e4⟩
theorem sync_act {F : Nat → Prop} {w W : World} {db : Nat} {S : DS} {M : Mem} {fb xb : Nat} (s : Nm) (k : Nat) (hi : Inv S) (hM : DiskIn F w db S M) (hu : M.used = usedS S) (hc : Chg (fun _ => False) w W) (hk : look S.now s = some k) (hd : S.down = false) (hm : mayN s = true) (hsz : S.kept.length + S.acts.length ≤ 1000000)
    (rf : RowAt W fb 68 [Pt (M.bl.getD k 0)]) (rx : RowAt W xb 24 [Pt db]) :
    Calls Try.prog 30 #[Pt db, .func (.func 39) #[] #[Pt fb, Pt xb]] W (DiskEnd F w db (syncS S s)) := by
  have hW := hM.later hc
  rw [sync_ok hd hm hk]
  by_cases ha : S.arm = 1
  · have e1 : armF S = true := by simp [armF, ha]
    rw [e1]
    refine (act_down _ hW hd ha).mono fun e w' ⟨h1, h2, h3⟩ => ⟨h1, F, ⟨?_, fun _ h => .inl h, fun _ h => h⟩, inv_arm hi, M, h3, hu⟩
    exact hc.never.trans (h2.mono (fun _ _ h => h))
  · have e1 : armF S = false := by simp [armF, ha]
    rw [e1]
    obtain ⟨g1, g2⟩ := go_fin hW hd ha
    have hne : ∀ x t v, RowAt W x t [v] → t ≠ 50 → RowAt (W.setCell ⟨db, 6, none⟩ (.int .i64 ((S.arm - 1 : Nat) : Int))) x t [v] := fun x t v hr ht => hr.other (a := ⟨db, 6, none⟩) (ne_of_types hr hW.row ht) _
    refine (act_sync fb xb hW hd ha (Q := fun w' => Chg F (W.setCell ⟨db, 6, none⟩ (.int .i64 ((S.arm - 1 : Nat) : Int))) w' ∧ DiskIn F w' db (keepS (armS S) k) { ({ M with armed := S.arm - 1 } : Mem) with av := .slice none 0 0, fs := [] }) ?_).mono fun e w' ⟨h1, h2⟩ => ⟨h1, F, ⟨(hc.never.trans g1).trans h2.1, fun _ h => .inl h, fun _ h => h⟩, inv_keep (inv_arm hi) k, _, h2.2, hu.trans (used_keep k).symm⟩
    exact syncC fb xb g2 (inv_arm hi) k (hi.nids _ (look_mem hk)) hsz (hne _ _ _ rf (by decide)) (hne _ _ _ rx (by decide))

set_option maxRecDepth 100000 in
set_option maxHeartbeats 2000000 in
theorem sync_any {F : Nat → Prop} {w : World} {db : Nat} {S : DS} (s : ByteArray) (h : DiskAt F w db S) (hsz : S.kept.length + S.acts.length ≤ 1000000) :
    Calls Try.prog 18 #[Pt db, .string s] w (DiskEnd F w db (syncS S s.data.toList)) := by
  have H := Lib.hid h
  obtain ⟨hi, M, hM, hu⟩ := h
  have P := Lib.hid (find_disk (hM.later (w2s_chg w db s)) _ 1 1 _ (one_str _ s) (by omega) (by omega))
  simp only [World.size_alloc] at P
  by_cases hz : findE S [s.data.toList] = 0
  · obtain ⟨hd, hm, ho, he⟩ := find_yes (.inl hz)
    obtain ⟨k, hk⟩ : ∃ k, look S.now s.data.toList = some k := by
      rw [hz] at he
      cases hk : look S.now s.data.toList with
      | none => rw [hk] at he; simp at he
      | some k => exact ⟨k, rfl⟩
    rw [ho, hz, hk] at P
    simp only [ptrOf] at P
    have W5 := Lib.hid (fun q => w3s_facts (w := w) (db := db) (s := s) q (some ⟨M.bl.getD k 0, 0, none⟩))
    have GO := Lib.hid (fun (W : World) hc rf rx => sync_act (W := W) (fb := w.heap.size + 1 + 1) (xb := w.heap.size) s.data.toList k hi hM hu hc hk hd hm hsz rf rx)
    generalize M.bl.getD k 0 = x at *
    clear hz hd hm ho he hi hM hu hsz hk M
    go_enter Try.func18, Try.ntmps18
    go_wp2_with (first
      | (go_at_call 29; (with_reducible refine P.out.mono ?_); rintro e w5 ⟨rfl, q, rfl⟩; have GA := Lib.hid (GO.out _ (W5.out q).1 (W5.out q).2.2 (W5.out q).2.1))
      | (go_at_call 30; (with_reducible refine GA.out.mono ?_); intro e w9 he; have HE := Lib.hid he; obtain ⟨rfl, hx⟩ := he; clear hx))
    go_ret
    exact HE.out
  · have E := Lib.hid (sync_err rfl hz)
    have k0 : (((findE S [s.data.toList] : Nat) : Int) != 0) = true := by simp; omega
    obtain ⟨p, hp⟩ := ptrOf_pt M.bl (findO S [s.data.toList])
    rw [hp] at P
    generalize findE S [s.data.toList] = z at P k0 E
    have HC := Lib.hid (w2s_chg w db s)
    clear hi hM hu hz hp M hsz
    go_enter Try.func18, Try.ntmps18
    go_wp2_with (first | (go_at_call 29; (with_reducible refine P.out.mono ?_); rintro e w5 ⟨rfl, q, rfl⟩))
    go_ret
    refine ⟨by rw [E.out]; rfl, F, Step.of_below ?_, ?_⟩
    · exact ((HC.out.drewN q).alloc _).below (fun k hk => hk.elim) (Nat.le_refl _)
    · rw [E.out]
      exact H.out.later ((HC.out.drewN q).alloc _)
#print axioms sync_any
end Go.Proofs.Ytemphljkfpkgmaa
