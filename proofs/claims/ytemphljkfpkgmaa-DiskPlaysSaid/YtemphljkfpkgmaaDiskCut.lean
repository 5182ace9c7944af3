/-
  A crash in memory: a file is cut; what is left is all that there is.
-/
import Derived.Test.YtemphljkfpkgmaaFate
namespace Go.Proofs.Ytemphljkfpkgmaa
open Go.RowKit Go.Maps

theorem Own.take {w : World} {a : Option Addr} {n c : Nat} {l : List UInt8} (h : Own w 0 (.slice a n c) l) {m : Nat} (hm : m ≤ n) : Own w 0 (.slice a m c) (l.take m) := by
  have hl := h.len
  obtain ⟨h1, h2⟩ := h
  refine ⟨by simp, ?_⟩
  have e : (l.take m).length = m := by rw [List.length_take]; omega
  rcases h2 with ⟨hv, h0⟩ | ⟨g, cap, cur, hv, hg, hh, hnc, hcm, hcs, ht⟩
  · cases hv
    obtain rfl : m = 0 := by omega
    exact .inl ⟨rfl, by simp⟩
  · cases hv
    refine .inr ⟨g, c, cur, by rw [e], hg, hh, by omega, hcm, hcs, ?_⟩
    rw [e]
    have : cur.toList.take (m * 1) = (cur.toList.take (l.length * 1)).take (m * 1) := by rw [List.take_take]; congr 1; omega
    rw [this, ht, Nat.mul_one, List.map_take]

def cutS (S : DS) (L : Dir) (fs : List Int) (i : Nat) : DS := { S with files := cutTo S.files L fs i, kept := L, acts := [] }
section
variable {F : Nat → Prop} {w W w' : World} {db : Nat} {S : DS} {M : Mem} {L : Dir} {fs : List Int}
theorem cut_fin {i : Nat} (h : DiskIn F W db (cutS S L fs i) M) (hn : (ids L).Nodup) (hl : ∀ i, i < L.length → atD L i < S.files.length) (hi : i < L.length) (hsy : ∀ k, (S.files.getD k ([], 0)).2 ≤ (S.files.getD k ([], 0)).1.length)
    {fa : Option Addr} {fn fc : Nat} (hv : M.vs.getD (atD L i) undef = .slice fa fn fc) {m u : Nat} (hm : m = cutN (S.files.getD (atD L i) ([], 0)) fs i)
    (hw : SameW (((W.setCell ⟨M.bl.getD (atD L i) 0, 1, none⟩ (.int .i64 (m : Int))).setCell ⟨M.bl.getD (atD L i) 0, 0, none⟩ (.slice fa m fc)).setCell ⟨db, 4, none⟩ (.int .i64 (u : Int))) w') :
    Chg F W w' ∧ DiskIn F w' db (cutS S L fs (i + 1)) { M with vs := M.vs.set (atD L i) (.slice fa m fc), used := u } := by
  have hk : atD L i < (cutS S L fs i).files.length := by show _ < (cutTo S.files L fs i).length; rw [cutTo_length]; exact hl i hi
  have hfile : (cutS S L fs i).files.getD (atD L i) ([], 0) = S.files.getD (atD L i) ([], 0) := cutTo_later fs hn hl (Nat.le_refl _) hi
  have hfr := h.files.row _ hk
  have hown := h.files.own _ hk
  rw [hfile, hv] at hfr hown
  have hfn : fn = (S.files.getD (atD L i) ([], 0)).1.length := hown.len
  have hcut := cut_le _ fs i (hsy (atD L i))
  generalize hx : M.bl.getD (atD L i) 0 = x at *
  have hfb : FileB W x := ⟨_, .inl hfr⟩
  have hdb := h.db_file hfb
  have kX : ∀ r, r ≠ x → r ≠ db → w'.heap[r]? = W.heap[r]? := fun r h1 h2 => by rw [hw.heap, Below.heap_setCell _ _ _ _ h2, Below.heap_setCell _ _ _ _ h1, Below.heap_setCell _ _ _ _ h1]
  have sz : w'.heap.size = W.heap.size := by rw [hw.heap]; simp [World.setCell]
  have hF : F x := by have := (h.files.inF _ hk).1; rwa [hx] at this
  have gf : ∀ j, (cutS S L fs (i + 1)).files.getD j ([], 0) = if j = atD L i then cutF (S.files.getD (atD L i) ([], 0)) fs i else (cutS S L fs i).files.getD j ([], 0) := fun j => getD_set _ _ _ _ hk
  have gv : ∀ j, (M.vs.set (atD L i) (Value.slice fa m fc)).getD j undef = if j = atD L i then .slice fa m fc else M.vs.getD j undef := by
    intro j
    simp only [List.getD_eq_getElem?_getD]
    by_cases e : j = atD L i
    · subst e; simp [h.files.vss, hk]
    · rw [if_neg e, List.getElem?_set_ne (fun h => e h.symm)]
  have hc1 : Chg F W w' := (((Chg.refl.setCell (.inl hF) _).setCell (.inl hF) _).setCell (.inl h.inF.1) _).sameW hw
  refine ⟨hc1, ?_, ?_, h.acts.same (fun _ h => h) (fun r hr => kX r (fun e => h.av_file hfb (e ▸ hr)) (fun e => h.av_db (e ▸ hr))) (fun r _ hb => kX r (box_file hb hfb) (h.db_box hb)), h.now.same (kX _ (file_map hfb h.now).symm (fun e => h.db_map h.now e.symm)), h.kept.same (kX _ (file_map hfb h.kept).symm (fun e => h.db_map h.kept e.symm)), h.two, h.arm, h.armI, h.inF, fun r hr => by rw [sz]; exact h.lt r hr⟩
  · have e := (((h.row.other (a := ⟨x, 1, none⟩) hdb.symm (.int .i64 (m : Int))).other (a := ⟨x, 0, none⟩) hdb.symm (.slice fa m fc)).set 4 (.int .i64 (u : Int)))
    exact e.same (by rw [hw.heap])
  · refine h.files.upd (fun _ h => h) hk (v' := .slice fa m fc) (x' := cutF (S.files.getD (atD L i) ([], 0)) fs i) (by simp [cutS, cutTo]) gf (by simp) gv ?_ ?_ h.lt (fun r hr => ?_) (fun r _ hb h1 h2 => kX r (by rwa [hx] at h1) (h.db_file hb))
    · rw [hx]
      have e := (((hfr.set 1 (.int .i64 (m : Int))).set 0 (.slice fa m fc)).other (a := ⟨db, 4, none⟩) hdb (.int .i64 (u : Int)))
      have e2 : fileC (.slice fa m fc) (cutF (S.files.getD (atD L i) ([], 0)) fs i).2 = [.slice fa m fc, .int .i64 (m : Int)] := by rw [hm]; rfl
      rw [e2]
      exact e.same (by rw [hw.heap])
    · have e : (cutF (S.files.getD (atD L i) ([], 0)) fs i).1 = (S.files.getD (atD L i) ([], 0)).1.take m := by rw [hm]; rfl
      rw [e]
      refine (Own.take hown (by omega)).same (fun q hq => ?_)
      have hq2 : (Value.slice fa fn fc).ownBlock = some q := by cases fa <;> exact hq
      obtain ⟨cur, hc⟩ := row_block hown hq2
      exact kX q (fun e => by rw [e] at hc; exact ne_of_types hfr hc (by decide) rfl) (fun e => by rw [e] at hc; exact ne_of_types h.row hc (by decide) rfl)
    · have hr2 : (M.vs.getD (atD L i) undef).ownBlock = some r := by rw [hv]; cases fa <;> exact hr
      exact ⟨(h.files.inF _ hk).2 r hr2, .inl hr2⟩
/-- All is cut: the disk behind the crash. -/
theorem left_fin (h : DiskIn F w db (cutS S (leftS S fs) fs (leftS S fs).length) M) (hi : Inv S) (hu : M.used = usedC S.files (leftS S fs) fs (leftS S fs).length)
    {bn : Nat} (hd : DirAt w' bn M.bl (leftS S fs).length (look (leftS S fs))) (hb : Below w.heap.size w w') (hbn : w.heap.size ≤ bn)
    {W : World} (hW : SameW (((w'.setCell ⟨db, 1, none⟩ (.map (some bn))).setCell ⟨db, 6, none⟩ (.int .i64 0)).setCell ⟨db, 7, none⟩ (.bool false)) W) :
    Chg F w W ∧ DiskAt (Plus F w W) W db (crashS S fs) := by
  have hgood := hi.lgood fs
  have hlid := hi.lids fs
  generalize hL : leftS S fs = L at *
  have h' := h.same hb.size (fun k hk => hb.block k (h.lt k hk))
  have kX : ∀ r, r ≠ db → W.heap[r]? = w'.heap[r]? := fun r h1 => by rw [hW.heap, Below.heap_setCell _ _ _ _ h1, Below.heap_setCell _ _ _ _ h1, Below.heap_setCell _ _ _ _ h1]
  have sz : W.heap.size = w'.heap.size := by rw [hW.heap]; simp [World.setCell]
  have hl : ∀ i, i < L.length → atD L i < S.files.length := fun i h => by rw [atD_at h]; exact hlid _ (List.getElem_mem h)
  have hlen : (cutTo S.files L fs L.length).length = S.files.length := cutTo_length _ _ _ _
  have hold : ∀ k, F k → Plus F w W k := fun _ h => .inl h
  have gb : ∀ i, i < L.length → (L.map fun e => M.bl.getD e.2 0).getD i 0 = M.bl.getD (atD L i) 0 := fun i hi => by simp [List.getD_eq_getElem?_getD, hi, atD]
  have gv : ∀ i, i < L.length → (L.map fun e => M.vs.getD e.2 undef).getD i undef = M.vs.getD (atD L i) undef := fun i hi => by simp [List.getD_eq_getElem?_getD, hi, atD]
  have gf : ∀ i, i < L.length → (crashS S fs).files.getD i ([], 0) = (cutS S L fs L.length).files.getD (atD L i) ([], 0) := fun i hi2 => by
    show (leftFiles S.files (leftS S fs) fs).getD i ([], 0) = (cutTo S.files L fs L.length).getD (atD L i) ([], 0)
    rw [hL, cutTo_done fs hgood.once hl hi2 (Nat.le_refl _)]
    simp [leftFiles, List.getD_eq_getElem?_getD, hi2, atD]
  have hcl : (crashS S fs).files.length = L.length := by show (leftFiles S.files (leftS S fs) fs).length = _; rw [hL]; simp [leftFiles]
  have hck : ∀ i, i < L.length → atD L i < (cutS S L fs L.length).files.length := fun i h => by show _ < (cutTo S.files L fs L.length).length; rw [hlen]; exact hl i h
  have hnow : (crashS S fs).now = leftNow L := by show leftNow (leftS S fs) = _; rw [hL]
  have hkept : (crashS S fs).kept = leftNow L := hnow
  have hlk : ∀ s, entryD (L.map fun e => M.bl.getD e.2 0) (look (leftNow L) s) = entryD M.bl (look L s) := by
    intro s
    have hgl := good_leftNow hgood
    cases hk : look L s with
    | none =>
      have : look (leftNow L) s = none := by
        cases h2 : look (leftNow L) s with
        | none => rfl
        | some k =>
          have h3 : s ∈ names (leftNow L) := names_mem.2 (by rw [h2]; simp)
          rw [leftNow_names, names_mem, hk] at h3
          exact absurd rfl h3
      rw [this]; rfl
    | some k =>
      obtain ⟨i, hi2, he⟩ := List.mem_iff_getElem.1 (look_mem hk)
      have h2 : look (leftNow L) s = some i := look_of_mem hgl.sorted (List.mem_iff_getElem.2 ⟨i, by simpa [leftNow] using hi2, by simp [leftNow, he]⟩)
      rw [h2]
      show DataW.lit (.int .i64 (((L.map fun e => M.bl.getD e.2 0).getD i 0 : Nat) : Int)) = .lit (.int .i64 ((M.bl.getD k 0 : Nat) : Int))
      rw [gb i hi2, atD_at hi2, he]
  have hnl : (leftNow L).length = L.length := by simp [leftNow]
  have hbf : bn ≠ M.bk := fun e => by have := h.lt _ h.inF.2.2; omega
  have hbd : bn ≠ db := fun e => by have := h.lt _ h.inF.1; omega
  have hch : Chg F w W := (((Chg.of_below hb).setCell (.inl h.inF.1) _).setCell (.inl h.inF.1) _).setCell (.inl h.inF.1) _ |>.sameW hW
  refine ⟨hch, inv_crash hi fs, ⟨bn, M.bk, M.av, M.fs, L.map fun e => M.bl.getD e.2 0, L.map fun e => M.vs.getD e.2 undef, M.used, 0⟩, ⟨?_, ⟨?_, ?_, fun i hi2 => ?_, fun i hi2 => ?_, ?_, fun i j hi2 hj hij => ?_, fun i hi2 => ?_⟩, ?_, ?_, ?_, hbf, fun _ => rfl, by simp, ⟨.inl h.inF.1, .inr ⟨hbn, by rw [sz]; exact hd.lt⟩, .inl h.inF.2.2⟩, fun k hk => ?_⟩, ?_⟩
  · have e := (((h'.row.set 1 (.map (some bn))).set 6 (.int .i64 0)).set 7 (.bool false))
    exact e.same (by rw [hW.heap])
  · simp [hcl]
  · simp [hcl]
  · rw [hcl] at hi2
    rw [gb i hi2, gv i hi2, gf i hi2]
    have := h'.files.row _ (hck i hi2)
    exact this.same (kX _ (h'.db_file ⟨_, .inl this⟩))
  · rw [hcl] at hi2
    rw [gv i hi2, gf i hi2]
    have := h'.files.own _ (hck i hi2)
    exact this.same (fun r hr => kX r (by obtain ⟨cur, hc⟩ := row_block this hr; exact h'.db_file ⟨cur, .inr hc⟩))
  · refine List.pairwise_iff_getElem.2 fun i j hi2 hj hij e => ?_
    simp only [List.length_map] at hi2 hj
    have hne : atD L i ≠ atD L j := fun h => by have := atD_inj hgood.once hi2 hj h; omega
    simp only [List.getElem_map] at e
    rw [← atD_at hi2, ← atD_at hj] at e
    have h1 : atD L i < M.bl.length := by rw [h.files.bls]; exact hck i hi2
    have h2 : atD L j < M.bl.length := by rw [h.files.bls]; exact hck j hj
    rw [List.getD_eq_getElem?_getD, List.getD_eq_getElem?_getD, List.getElem?_eq_getElem h1, List.getElem?_eq_getElem h2] at e
    exact hne ((List.getElem_inj h.files.once).1 (by simpa using e))
  · rw [hcl] at hi2 hj
    rw [gv i hi2, gv j hj]
    exact h.files.apart _ _ (hck i hi2) (hck j hj) (fun e => hij (atD_inj hgood.once hi2 hj e))
  · rw [hcl] at hi2
    rw [gb i hi2, gv i hi2]
    have := h.files.inF _ (hck i hi2)
    exact ⟨.inl this.1, fun r hr => .inl (this.2 r hr)⟩
  · have := (h'.acts.same hold (fun r hr => kX r (fun e => h'.av_db (e ▸ hr))) (fun r _ hb => kX r (h'.db_box hb)))
    exact ⟨this.len, this.own, fun i hi2 => by simp [crashS] at hi2, this.inF⟩
  · have e1 := (hd.same (kX bn hbd)).renamed (bl' := L.map fun e => M.bl.getD e.2 0) (g' := look (leftNow L)) hlk
    rw [hnow, hnl]
    exact e1
  · have e1 := (h'.kept.same (kX _ (fun e => h'.db_map h'.kept e.symm))).renamed (bl' := L.map fun e => M.bl.getD e.2 0) (g' := look (leftNow L)) hlk
    rw [hkept, hnl]
    exact e1
  · rcases hk with hk | hk
    · have := h.lt k hk; have := hb.size; omega
    · exact hk.2
  · rw [used_crash hi fs, hL]
    exact hu
end
#print axioms left_fin
end Go.Proofs.Ytemphljkfpkgmaa
