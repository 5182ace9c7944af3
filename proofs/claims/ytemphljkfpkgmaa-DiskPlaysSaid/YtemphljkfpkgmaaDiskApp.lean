/-
  The walk of Append's closure.
-/
import Derived.Test.YtemphljkfpkgmaaDkActAll
import Derived.Test.YtemphljkfpkgmaaDkMathAll
import Derived.Deep.RegionLaw
import Derived.StillTailTactics
namespace Go.Proofs.Ytemphljkfpkgmaa
open Go.RowKit Go.Maps

theorem run_app_bytes {w : World} (v : Value) (l : List UInt8) (hown : Own w 0 v l) (sa : Option Addr) (m c : Nat) (src : List UInt8) (hsrc : Bytes w sa m c src) (h48 : l.length + m ≤ 140737488355328) (ty : TypeId) :
    ∃ v' w', (Builtin.append_ #[35, 35] ty #[v, .slice sa m c]).run Try.prog w = .ok v' w' ∧ Own w' 0 v' (l ++ src) ∧ w.grownBy w' v.ownBlock ∧ Told w v v' := by
  obtain ⟨i0, hi, hz0, hz1, hz2⟩ := info_parts Try.info5
  obtain ⟨h1, h2, h3, h4⟩ := hsrc
  have main : ∀ ad : Addr, sa = some ad → (∀ j u, (src.map B)[j]? = some u → w.cell? (ad.add j) = some u) → ∃ v' w', (Builtin.append_ #[35, 35] ty #[v, .slice sa m c]).run Try.prog w = .ok v' w' ∧ Own w' 0 v' (l ++ src) ∧ w.grownBy w' v.ownBlock ∧ Told w v v' := by
    intro ad hsa hnews
    subst hsa
    obtain ⟨v', w', hr, h5, h6, h7⟩ := run_append_tell (P := Try.prog) w 0 35 ty 5 i0 (.int .u8 0) 1 1 Try.underlying35 hi hz0 hz1 hz2 rfl (by decide) v l.length (l.map B) hown
      ad m c (src.map B) (by simp [h1]) hnews (fun u hu => by obtain ⟨x, _, rfl⟩ := List.mem_map.1 hu; rfl) (by unfold maxLen; omega) (by omega) (Nat.zero_le _)
    refine ⟨v', w', hr, ?_, h6, h7⟩
    unfold Own
    rw [List.length_append, List.map_append, h1]
    exact h5
  rcases h4 with ⟨rfl, rfl⟩ | ⟨b, off, rfl, hc⟩
  · have : src = [] := List.length_eq_zero_iff.1 h1
    subst this
    cases sa with
    | none =>
      refine ⟨v, w, run_append_owned_none (P := Try.prog) _ 0 35 ty 5 i0 1 Try.underlying35 hi v _ _ hown, by rw [List.append_nil]; exact hown, ⟨rfl, rfl, rfl, Nat.le_refl _, fun _ _ _ => rfl⟩, .inl rfl⟩
    | some ad => exact main ad rfl (fun j u hu => by simp at hu)
  · refine main _ rfl (fun j u hu => ?_)
    rw [List.getElem?_map] at hu
    have hj : j < src.length := by
      rcases Nat.lt_or_ge j src.length with h | h
      · exact h
      · rw [List.getElem?_eq_none h] at hu; cases hu
    have := hc j (by omega)
    simp only [List.getElem?_eq_getElem hj, Option.map_some, Option.some.injEq] at hu
    subst hu
    rw [Addr.add_lit]
    simpa [B, hj] using this
/-- An append of bytes as one step of a region that draws, told. -/
theorem step_app {w : World} {ops : Array Oper} {o : Oper} {a : Act} {K : Act → World → Prop} {Q : Exit → Act → World → Prop} {E : Prop} (hgd : o.guard = none) (s x : Operand)
    (ho : o.op = .call { callee := .builtin .append, args := #[s, x], argTypes := #[35, 35] })
    (v : Value) (l : List UInt8) (hs : a.eval s = v) (hown : Own w 0 v l) (sa : Option Addr) (m c : Nat) (src : List UInt8) (hx : a.eval x = .slice sa m c) (hsrc : Bytes w sa m c src) (h48 : l.length + m ≤ 140737488355328) (r : Nat) (hr : r = l.length + m)
    (h : ∀ a' c' w', Own w' 0 (.slice a' r c') (l ++ src) → w.grownBy w' v.ownBlock → Told w v (.slice a' r c') → K (a.put o.dst (.slice a' r c')) w') :
    if Region.wanted o (yielded ops a.tmps) = true then Oper.wp Try.prog o a w K Q else E := by
  have hw : Region.wanted o (yielded ops a.tmps) = true := by simp [Region.wanted, hgd]
  rw [if_pos hw]
  obtain ⟨v', w', hrun, h5, h6, h7⟩ := run_app_bytes v l hown sa m c src hsrc h48 o.type
  obtain ⟨a', n', c', rfl, hb⟩ := h5.bytes
  obtain rfl : n' = r := by have := h5.len; have := hsrc.1; rw [List.length_append] at *; omega
  unfold Oper.wp
  simp [execOp, ho, resolve, invoke, builtin, hs, hx, hrun, Result.andThen]
  exact h _ _ _ h5 h6 h7

/-- Two worlds whose memory is one. -/
structure SameW (w w' : World) : Prop where
  heap : w'.heap = w.heap
  os : w'.os = w.os
  tape : w'.tape = w.tape
  output : w'.output = w.output
section
variable {X F : Nat → Prop} {w w' w'' : World} {db : Nat} {S : DS} {M : Mem}
theorem Chg.sameW (h : Chg X w w') (k : SameW w' w'') : Chg X w w'' := ⟨k.os.trans h.os, k.tape.trans h.tape, k.output.trans h.output, by rw [k.heap]; exact h.size, fun i hi hX => by rw [k.heap]; exact h.block i hi hX⟩
theorem DiskIn.sameW (h : DiskIn F w db S M) (k : SameW w w') : DiskIn F w' db S M := h.same (by rw [k.heap]; exact Nat.le_refl _) (fun i _ => by rw [k.heap])
theorem DiskIn.wide {G : Nat → Prop} (h : DiskIn F w db S M) (hF : ∀ k, F k → G k) (hlt : ∀ k, G k → k < w.heap.size) : DiskIn G w db S M :=
  ⟨h.row, h.files.same hF (fun _ _ _ => rfl), h.acts.same hF (fun _ _ => rfl) (fun _ _ _ => rfl), h.now, h.kept, h.two, h.arm, h.armI, ⟨hF _ h.inF.1, hF _ h.inF.2.1, hF _ h.inF.2.2⟩, hlt⟩

/-- Bytes stand behind a file's. -/
def addF (S : DS) (k : Nat) (b : List UInt8) : DS := { S with files := S.files.modify k fun x => (x.1 ++ b, x.2) }
theorem add_fin (h : DiskIn F w db S M) {k : Nat} (hk : k < S.files.length) {b : List UInt8} {a' : Option Addr} {r c' : Nat} {W w' : World} (ho : Own W 0 (.slice a' r c') ((S.files.getD k ([], 0)).1 ++ b)) (hg : w.grownBy W (M.vs.getD k undef).ownBlock) (ht : Told w (M.vs.getD k undef) (.slice a' r c'))
    (n : Nat) (hw : SameW ((W.setCell ⟨M.bl.getD k 0, 0, none⟩ (.slice a' r c')).setCell ⟨db, 4, none⟩ (.int .i64 (n : Int))) w') :
    Chg F w w' ∧ DiskIn (Plus F w w') w' db (addF S k b) { M with vs := M.vs.set k (.slice a' r c'), used := n } := by
  have hfr := h.files.row k hk
  have hfb : FileB w (M.bl.getD k 0) := ⟨_, .inl hfr⟩
  have hdbk : M.bl.getD k 0 ≠ db := h.db_file hfb
  have hrowB : ∀ r, (M.vs.getD k undef).ownBlock = some r → FileB w r ∧ F r := fun r hr => by
    obtain ⟨cur, hc⟩ := row_block (h.files.own k hk) hr
    exact ⟨⟨cur, .inr hc⟩, (h.files.inF k hk).2 r hr⟩
  have hk1 : Chg F w W := Chg.refl.grown hg (fun r hr => .inl (hrowB r hr).2)
  have hk2 : Chg F w w' := ((hk1.setCell (.inl (h.files.inF k hk).1) _).setCell (.inl h.inF.1) _).sameW hw
  have kX : ∀ r, r < w.heap.size → r ≠ M.bl.getD k 0 → r ≠ db → (M.vs.getD k undef).ownBlock ≠ some r → w'.heap[r]? = w.heap[r]? := by
    intro r hr h1 h2 h3
    rw [hw.heap, Below.heap_setCell _ _ _ _ h2, Below.heap_setCell _ _ _ _ h1, hg.block r hr (fun e => h3 e.symm)]
  have sz : w'.heap.size = W.heap.size := by rw [hw.heap]; simp [World.setCell]
  have rdb : RowAt W db 50 (diskC S M) := h.row.same (hg.block db h.row.lt (fun e => h.db_file (hrowB db e.symm).1 rfl))
  have rfk : RowAt W (M.bl.getD k 0) 73 (fileC (M.vs.getD k undef) (S.files.getD k ([], 0)).2) := hfr.same (hg.block _ hfr.lt (fun e => by
    obtain ⟨cur, hc⟩ := row_block (h.files.own k hk) e.symm
    exact ne_of_types hfr hc (by decide) rfl))
  have gf : ∀ i, (addF S k b).files.getD i ([], 0) = if i = k then ((S.files.getD k ([], 0)).1 ++ b, (S.files.getD k ([], 0)).2) else S.files.getD i ([], 0) := by
    intro i
    simp only [addF, List.getD_eq_getElem?_getD, List.getElem?_modify]
    by_cases e : i = k
    · subst e; simp [List.getElem?_eq_getElem hk]
    · have e2 : ¬ k = i := fun h => e h.symm
      rw [if_neg e]; simp [e2]
  have gv : ∀ i, (M.vs.set k (Value.slice a' r c')).getD i undef = if i = k then .slice a' r c' else M.vs.getD i undef := by
    intro i
    simp only [List.getD_eq_getElem?_getD]
    by_cases e : i = k
    · subst e; simp [h.files.vss, hk]
    · rw [if_neg e, List.getElem?_set_ne (fun h => e h.symm)]
  have hold : ∀ k, F k → Plus F w w' k := fun _ h => .inl h
  refine ⟨hk2, ?_, ?_, ?_, ?_, ?_, h.two, h.arm, h.armI, ⟨.inl h.inF.1, .inl h.inF.2.1, .inl h.inF.2.2⟩, fun i hi => ?_⟩
  · have e := (rdb.other (a := ⟨M.bl.getD k 0, 0, none⟩) (fun e => hdbk e.symm) (.slice a' r c')).set 4 (.int .i64 (n : Int))
    exact e.same (by rw [hw.heap])
  · refine h.files.upd hold hk (v' := .slice a' r c') (x' := ((S.files.getD k ([], 0)).1 ++ b, (S.files.getD k ([], 0)).2)) (by simp [addF]) gf (by simp) gv ?_ ?_ h.lt ?_ ?_
    · have e := (rfk.set 0 (.slice a' r c')).other (a := ⟨db, 4, none⟩) hdbk (.int .i64 (n : Int))
      exact e.same (by rw [hw.heap])
    · refine ho.same (fun q hq => ?_)
      have hne1 : q ≠ M.bl.getD k 0 := fun e => by
        subst e
        obtain ⟨cur, hc⟩ := row_block ho hq
        exact ne_of_types rfk hc (by decide) rfl
      have hne2 : q ≠ db := fun e => by
        subst e
        obtain ⟨cur, hc⟩ := row_block ho hq
        exact ne_of_types rdb hc (by decide) rfl
      rw [hw.heap, Below.heap_setCell _ _ _ _ hne2, Below.heap_setCell _ _ _ _ hne1]
    · intro q hq
      have hlt := (World.ownsRow.lt ho q hq).2
      rcases ht with e | ⟨m, hm, hle⟩
      · have e2 := e ▸ hq
        exact ⟨.inl (hrowB q e2).2, .inl e2⟩
      · rw [hm] at hq
        cases hq
        exact ⟨.inr ⟨hle, by omega⟩, .inr hle⟩
    · intro q hq hb h1 h2
      exact kX q hq h1 (h.db_file hb) h2
  · exact h.acts.same hold (fun q hq => kX q (h.lt q (h.acts.inF q hq)) (fun e => h.av_file hfb (e ▸ hq)) (fun e => h.av_db (e ▸ hq)) (fun e => h.av_file (hrowB q e).1 hq)) (fun q hq hb => kX q (h.lt q hq) (box_file hb hfb) (h.db_box hb) (fun e => box_file hb (hrowB q e).1 rfl))
  · exact h.now.same (kX _ (h.lt _ h.inF.2.1) (fun e => file_map hfb h.now e.symm) (fun e => h.db_map h.now e.symm) (fun e => file_map (hrowB _ e).1 h.now rfl))
  · exact h.kept.same (kX _ (h.lt _ h.inF.2.2) (fun e => file_map hfb h.kept e.symm) (fun e => h.db_map h.kept e.symm) (fun e => file_map (hrowB _ e).1 h.kept rfl))
  · rcases hi with hi | hi
    · have := h.lt i hi; have := hg.size; omega
    · exact hi.2
end
#print axioms add_fin
end Go.Proofs.Ytemphljkfpkgmaa
