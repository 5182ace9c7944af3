/-
  The walk of keep: the first n of the directory's acts, brought into what is kept.
-/
import Derived.Test.YtcnhifkpflaibaaDoorDiskChange
namespace Go.Proofs.YtcnhifkpflaibaaDoor
open Go.RowKit Go.Maps

def foldN (S : DS) (n : Nat) : Dir := (S.acts.take n).foldl turnD S.kept
def keptS (S : DS) (n : Nat) : DS := { S with kept := foldN S n, acts := [] }
theorem acts_at {F : Nat → Prop} {w : World} {bl : List Nat} {acts : List DAct} {av : Value} {fs : List Value} (h : ActsIn F w bl acts av fs) :
    ∃ a c, av = .slice a acts.length c ∧ acts.length ≤ c ∧ c ≤ 9223372036854775807 ∧ ((acts.length = 0 ∧ c = 0 ∧ a = none) ∨ ∃ g, a = some ⟨g, 0, none⟩ ∧ ∀ j, j < acts.length → w.cell? ⟨g, 0 + j, none⟩ = some (fs.getD j undef)) := by
  have h0 := h.own
  have hl := h.len
  obtain ⟨h1, h2⟩ := h0
  rcases h2 with ⟨rfl, hn⟩ | ⟨g, cap, cur, rfl, hb, hg, hn, hm, hs, ht⟩
  · exact ⟨none, 0, by rw [← hl, hn], by omega, by omega, .inl ⟨by omega, rfl, rfl⟩⟩
  · refine ⟨_, cap, by rw [hl], by omega, by unfold maxLen at hm; omega, .inr ⟨g, rfl, fun j hj => ?_⟩⟩
    have := h.own.cells (g := g) rfl j (fs.getD j undef) (by rw [List.getD_eq_getElem?_getD, List.getElem?_eq_getElem (by omega)]; rfl)
    rw [Addr.add_lit] at this
    exact this

/-- What keep leaves. -/
def KeepEnd (F : Nat → Prop) (w : World) (db : Nat) (S : DS) (M : Mem) (n : Nat) (e : Ending) (w' : World) : Prop :=
  e = .returned (.tuple #[]) ∧ Chg F w w' ∧ DiskIn F w' db (keptS S n) { M with av := .slice none 0 0, fs := [] }
section
variable {F : Nat → Prop} {w W : World} {db : Nat} {S : DS} {M : Mem}
theorem keep_mid (h : DiskIn F w db S M) (hg : w.grownBy W (some M.bk)) : RowAt W db 55 (diskC S M) :=
  h.row.same (hg.block db (h.lt _ h.inF.1) (fun e => by cases e; exact h.db_map h.kept rfl))
theorem keep_fin (h : DiskIn F w db S M) (n : Nat) (hg : w.grownBy W (some M.bk)) (hd : DirAt W M.bk M.bl (foldN S n).length (look (foldN S n))) : KeepEnd F w db S M n (.returned (.tuple #[])) (W.setCell ⟨db, 3, none⟩ (.slice none 0 0)) := by
  have hrow := keep_mid h hg
  have hk : Chg F w W := Chg.refl.grown hg (fun k hk => by cases hk; exact .inl h.inF.2.2)
  have kX : ∀ k, k < w.heap.size → k ≠ M.bk → k ≠ db → (W.setCell ⟨db, 3, none⟩ (.slice none 0 0)).heap[k]? = w.heap[k]? := by
    intro k hk h1 h2
    rw [Below.heap_setCell _ _ _ _ h2, hg.block k hk (fun e => h1 (by cases e; rfl))]
  have sz : w.heap.size ≤ (W.setCell ⟨db, 3, none⟩ (.slice none 0 0)).heap.size := by have := hg.size; simpa [World.setCell] using this
  refine ⟨rfl, hk.setCell (.inl h.inF.1) _, ?_, h.files.same (fun _ h => h) (fun k hk hb => kX k (h.lt k hk) (file_map hb h.kept) (h.db_file hb)), ActsIn.none_, ?_, ?_, h.two, h.arm, h.armI, h.inF, fun k hk => Nat.lt_of_lt_of_le (h.lt k hk) sz⟩
  · exact hrow.set 3 (.slice none 0 0)
  · exact h.now.same (kX M.bf (h.lt _ h.inF.2.1) h.two (fun e => h.db_map h.now e.symm))
  · exact hd.same (Below.heap_setCell _ _ _ _ (fun e => h.db_map h.kept e.symm))
end

theorem act_row {F : Nat → Prop} {w W : World} {db x : Nat} {S : DS} {M : Mem} {t : TypeId} {v : Value} (h : DiskIn F w db S M) (hg : w.grownBy W (some M.bk)) (hx : F x) (hr : RowAt w x t [v]) : RowAt W x t [v] :=
  hr.same (hg.block x (h.lt x hx) (fun e => by cases e; exact ne_map hr h.kept rfl))

set_option maxRecDepth 100000 in
set_option maxHeartbeats 2000000 in
theorem keep_any {F : Nat → Prop} {w : World} {db : Nat} {S : DS} {M : Mem} (n : Nat) (h : DiskIn F w db S M) (hi : Inv S) (hn : n ≤ S.acts.length) (hs : S.kept.length + S.acts.length ≤ 1000000) :
    Calls Tryd.prog 23 #[Pt db, .int .i64 (n : Int)] w (KeepEnd F w db S M n) := by
  have H := Lib.hid h
  have HI := Lib.hid hi
  have HN := Lib.hid hn
  have HS := Lib.hid hs
  obtain ⟨_, _, c2, c3, _⟩ := h.facts
  obtain ⟨a, c, hav, hc1, hc2, hcell⟩ := acts_at h.acts
  rw [hav] at c3
  have HCELL := Lib.hid hcell
  have hnc : n ≤ c := by omega
  have hncI : (n : Int) ≤ (c : Int) := by omega
  have H0 := Lib.hid (show w.grownBy w (some M.bk) ∧ DirAt w M.bk M.bl (foldN S 0).length (look (foldN S 0)) from ⟨⟨rfl, rfl, rfl, Nat.le_refl _, fun _ _ _ => rfl⟩, h.kept⟩)
  clear h hi hn hs hav hcell hc1
  go_enter Tryd.func23, Tryd.ntmps23
  go_wp2
  go_loopg [13] n (fun g v13 W => ∃ i : Nat, v13 = .int .i64 i ∧ g + i = n ∧ Hid (w.grownBy W (some M.bk) ∧ DirAt W M.bk M.bl (foldN S i).length (look (foldN S i))))
  case atStart => exact ⟨0, rfl, rfl, H0⟩
  case round =>
    obtain ⟨i, rfl, hg, hall⟩ := hrel
    have HG := Lib.hid hg
    have hi0 : (0 : Int) ≤ (i : Int) := by omega
    have hiI : (i : Int) ≤ (n : Int) := by omega
    have RW := Lib.hid (keep_mid H.out hall.out.1)
    have e2 := RW.out.cell 2 rfl
    clear hg
    by_cases hi : (i : Int) < (n : Int)
    · have hin : i < n := by omega
      have hia : i < S.acts.length := by have := HN.out; omega
      obtain ⟨g, rfl, hcl⟩ : ∃ g, a = some ⟨g, 0, none⟩ ∧ ∀ j, j < S.acts.length → w.cell? ⟨g, 0 + j, none⟩ = some (M.fs.getD j undef) := by
        rcases HCELL.out with ⟨h0, _⟩ | h0
        · omega
        · exact h0
      have hci := hcl i hia
      have hact := H.out.acts.act i hia
      have hgoodL := (HI.out.runs.ahead i).good HI.out.good
      have hlen : (foldN S i).length ≤ 1000000 := by
        have h1 := fold_length (S.acts.take i) S.kept
        have h2 : (S.acts.take i).length ≤ S.acts.length := by rw [List.length_take]; omega
        have := HS.out
        unfold foldN
        omega
      have hmay : MayD (foldN S i) (S.acts.getD i ⟨[], [], 0⟩) := by
        have := HI.out.runs.step hia
        rw [List.getD_eq_getElem?_getD, List.getElem?_eq_getElem hia]
        exact this
      have ESUCC : foldN S (i + 1) = turnD (foldN S i) (S.acts.getD i ⟨[], [], 0⟩) := by
        rw [List.getD_eq_getElem?_getD, List.getElem?_eq_getElem hia]
        exact take_fold_succ hia S.kept
      have HSUCC := Lib.hid ESUCC
      have hcg : ∀ W : World, w.grownBy W (some M.bk) → W.cell? ⟨g, 0 + i, none⟩ = some (M.fs.getD i undef) := fun W hW => by
        refine cell_same hci (hW.block g (World.block_lt_of_cell? _ _ hci) (fun e => ?_))
        cases e
        obtain ⟨D, ⟨es, clock, h3, _⟩, _⟩ := H.out.kept
        simp [World.cell?, h3] at hci
      have hc4 := hcg wr hall.out.1
      rw [Nat.zero_add] at hc4
      have HGR := Lib.hid hall.out.1
      have HIN := Lib.hid hin
      generalize hA : S.acts.getD i ⟨[], [], 0⟩ = A at hact hmay HSUCC
      generalize hV : M.fs.getD i undef = V at hact hc4
      have HNM := Lib.hid (fun e (he : e ∈ foldN S i) => may_ne (hgoodL.named e he))
      have HSO := Lib.hid hgoodL.sorted
      have HL := Lib.hid hlen
      clear ESUCC hA hV hcg hci hcl hgoodL hlen
      rcases hact with ⟨q0, q1, q2, x, y, hx, hy, rfl, r1, r2⟩ | ⟨q0, q1, q2, q3, x, y, hx, hy, rfl, r1, r2⟩ | ⟨q0, q1, q2, x, hx, rfl, r1⟩
      · have P := Lib.hid (put_any M.bk x y M.bl (foldN S i) A wr hall.out.2 HSO.out HL.out q0 q1 q2 HNM.out ((act_row H.out HGR.out hx r1).cell 0 rfl) ((act_row H.out HGR.out hy r2).cell 0 rfl))
        clear q0 q1 q2 hx hy r1 r2 hmay
        go_wp2_with (first | (go_at_call 37; (with_reducible refine P.out.mono ?_); rintro e w1 ⟨rfl, hd1, hg1⟩; have HD1 := Lib.hid hd1; have HG1 := Lib.hid hg1; clear hd1 hg1))
        go_roundg (gk - 1)
        case measure => have := HG.out; have := HIN.out; omega
        case rel => exact ⟨i + 1, by go_num, by have := HG.out; have := HIN.out; omega, Lib.hid ⟨HGR.out.trans HG1.out, by rw [HSUCC.out]; exact HD1.out⟩⟩
      · exact absurd q2 (Nat.not_lt_zero _)
      · have P := Lib.hid (del_any M.bk x M.bl (foldN S i) A wr hall.out.2 HSO.out q1 q2 ((act_row H.out HGR.out hx r1).cell 0 rfl))
        clear q0 q1 q2 hx r1 hmay
        go_wp2_with (first | (go_at_call 67; (with_reducible refine P.out.mono ?_); rintro e w1 ⟨rfl, hd1, hg1⟩; have HD1 := Lib.hid hd1; have HG1 := Lib.hid hg1; clear hd1 hg1))
        go_roundg (gk - 1)
        case measure => have := HG.out; have := HIN.out; omega
        case rel => exact ⟨i + 1, by go_num, by have := HG.out; have := HIN.out; omega, Lib.hid ⟨HGR.out.trans HG1.out, by rw [HSUCC.out]; exact HD1.out⟩⟩
    · have hin : i = n := by omega
      have FIN := Lib.hid (keep_fin H.out n hall.out.1 (by rw [← hin]; exact hall.out.2))
      have fr := RW.out.free 3
      have e3 := RW.out.cell 3 rfl
      go_wp2
      exact bodyPost_ret (results_none rfl _ _ _) rfl FIN.out
#print axioms keep_any
end Go.Proofs.YtcnhifkpflaibaaDoor
