/-
  Merged: TreeVisW, TreeVisC, TreeOrder.
-/
import Derived.Test.YtmenhbdapikpeaaTreeFamM
import Derived.Test.YtmenhbdapikpeaaTreeVis
import Derived.Test.YtmenhbdapikpeaaRefPlacesL
import Derived.Test.YtmenhbdapikpeaaTreeFamW
import Derived.Test.YtmenhbdapikpeaaTreeRightW
namespace Go.Proofs.Ytmenhbdapikpeaa
open Go.RowKit

/-- The closure. -/
abbrev clT (gP gC gV : Nat) : Value := .func (.func 26) #[] #[.pointer (pA gP), .pointer (pA gC), .pointer (pA gV)]
/-- What stands while it goes: the children and the closure's own box. -/
structure VisC (W0 : World) (n gC gF gN gP gV : Nat) (s : FamS) : Prop where
  fam : ∃ w, FamW w W0 n gC gF gN s
  v : W0.cell? ⟨gV, 0, none⟩ = some (clT gP gC gV)
  p : gP < W0.heap.size
  n1 : gC ≠ gP
  n2 : gF ≠ gP
  n3 : gN ≠ gP
  n4 : gV ≠ gP
/-- The places so far, in their box. -/
structure VisAt (W0 W : World) (gP : Nat) (acc : List Nat) : Prop where
  grown : W0.grownBy W (some gP)
  box : ∃ a c, W.heap[gP]? = some (.cells #[.slice a acc.length c] 27 (0, 0)) ∧ Own1 N 3 W W0.heap.size (.slice a acc.length c) acc
section
variable {W0 W W' : World} {n gC gF gN gP gV : Nat} {s : FamS} {acc : List Nat}
theorem VisC.blk (h : VisC W0 n gC gF gN gP gV s) : gC < W0.heap.size ∧ (∀ i, i < n → gF < W0.heap.size ∧ gN < W0.heap.size) ∧ gV < W0.heap.size := by
  obtain ⟨w, hf⟩ := h.fam
  exact ⟨hf.lt, fun i hi => ⟨World.block_lt_of_cell? _ _ (hf.rows i hi).1, World.block_lt_of_cell? _ _ (hf.rows i hi).2.2.1⟩, World.block_lt_of_cell? _ _ h.v⟩
/-- What the closure reads. -/
theorem VisC.reads (h : VisC W0 n gC gF gN gP gV s) (hg : W0.grownBy W (some gP)) (i : Nat) (hi : i < n) :
    W.cell? ⟨gV, 0, none⟩ = some (clT gP gC gV) ∧ W.cell? ⟨gC, 1, none⟩ = some (.slice (pA gF) n n) ∧ W.cell? ⟨gC, 2, none⟩ = some (.slice (pA gN) n n) ∧
    W.cell? ⟨gF, i, none⟩ = some (.int .i64 (firstS s i)) ∧ W.cell? ⟨gN, i, none⟩ = some (.int .i64 (nextS s i)) := by
  obtain ⟨w, hf⟩ := h.fam
  obtain ⟨b1, b2, b3⟩ := h.blk
  obtain ⟨_, c1, c2, _⟩ := hf.cells
  obtain ⟨r1, _, r2, _⟩ := hf.rows i hi
  have e1 := hg.block gC b1 (by simpa using h.n1)
  have e2 := hg.block gF (b2 i hi).1 (by simpa using h.n2)
  have e3 := hg.block gN (b2 i hi).2 (by simpa using h.n3)
  have e4 := hg.block gV b3 (by simpa using h.n4)
  refine ⟨by rw [cell_same e4]; exact h.v, by rw [cell_same e1]; exact c1, by rw [cell_same e1]; exact c2, ?_, by rw [cell_same e3]; exact r2⟩
  rw [cell_same e2, r1]
  unfold M firstS
  rw [if_neg (by omega), Int.toNat_natCast]
theorem VisAt.drew (h : VisAt W0 W gP acc) (k : Nat) : VisAt W0 (W.drewN k) gP acc := by
  obtain ⟨g, a, c, h1, h2⟩ := h
  exact ⟨⟨g.os, g.tape, g.output, g.size, g.block⟩, a, c, h1, h2⟩
/-- A place is put behind. -/
theorem VisAt.put {a2 : Option Addr} {c2 : Nat} {a : Option Addr} {c : Nat} {W2 : World} (x : Nat) (h : VisAt W0 W gP acc) (hp : gP < W0.heap.size) (hb : W.heap[gP]? = some (.cells #[.slice a acc.length c] 27 (0, 0))) (hO : Own1 N 3 W W0.heap.size (.slice a acc.length c) acc)
    (o : Obj) (h2 : Own1 N 3 W2 W0.heap.size (.slice a2 (acc.length + 1) c2) (acc ++ [x])) (hg : (W.alloc o).grownBy W2 (Value.slice a acc.length c).ownBlock) : VisAt W0 (W2.setCell ⟨gP, 0, none⟩ (.slice a2 (acc.length + 1) c2)) gP (acc ++ [x]) := by
  have hgp : W2.heap[gP]? = some (.cells #[.slice a acc.length c] 27 (0, 0)) := by
    rw [hg.block gP (by have := h.grown.size; simp; omega) (fun e => by have := (hO.lt gP e.symm).1; omega)]
    rw [← hb]
    exact heap_alloc_old (h := by have := h.grown.size; omega) ..
  have hs := grown_set W2 gP 0 (.slice a2 (acc.length + 1) c2)
  refine ⟨?_, a2, c2, ?_, ?_⟩
  · refine (World.grownBy.trans ?_ hs)
    refine ⟨hg.os.trans h.grown.os, hg.tape.trans h.grown.tape, hg.output.trans h.grown.output, Nat.le_trans h.grown.size (Nat.le_trans (by simp) hg.size), fun k hk hne => ?_⟩
    have hkW : k < W.heap.size := Nat.lt_of_lt_of_le hk h.grown.size
    rw [hg.block k (by simp; omega) (fun e => by have := (hO.lt k e.symm).1; omega)]
    rw [heap_alloc_old (h := hkW)]
    exact h.grown.block k hk hne
  · rw [heap_setCell_same W2 gP 0 _ _ _ hgp]
    simp
  · have hl : (acc ++ [x]).length = acc.length + 1 := by simp
    rw [hl]
    refine h2.kept hs ?_
    cases hv : (Value.slice a2 (acc.length + 1) c2).ownBlock with
    | none => exact .inl rfl
    | some g => refine .inr (fun e => ?_); have := (h2.lt g hv).1; simp only [Option.some.injEq] at e; omega
end
#print axioms VisAt.put
end Go.Proofs.Ytmenhbdapikpeaa

namespace Go.Proofs.Ytmenhbdapikpeaa
open Go.RowKit

/-- What the closure does. -/
def VisEnd (W0 : World) (gP : Nat) (acc : List Nat) (e : Ending) (W' : World) : Prop := e = .returned (.tuple #[]) ∧ VisAt W0 W' gP acc
theorem Vis.cases_ {first : Int → Int} {next : Nat → Int} {q : Int} {l : List Nat} (h : Vis first next q l) : (q = -1 ∧ l = []) ∨ ∃ (c : Nat) (l1 l2 : List Nat), q = (c : Int) ∧ l = c :: (l1 ++ l2) ∧ Vis first next (first c) l1 ∧ Vis first next (next c) l2 := by
  cases h with
  | nil => exact .inl ⟨rfl, rfl⟩
  | cons c h1 h2 => exact .inr ⟨c, _, _, rfl, rfl, h1, h2⟩
/-- All that one round needs of the world, and what becomes of it. -/
structure VisR (W0 W : World) (n gC gF gN gP gV : Nat) (s : FamS) (acc : List Nat) (a : Option Addr) (c : Nat) (x : Nat) : Prop where
  at_ : VisAt W0 W gP acc
  blk : W.heap[gP]? = some (.cells #[.slice a acc.length c] 27 (0, 0))
  own : Own1 N 3 W W0.heap.size (.slice a acc.length c) acc
  cP : W.cell? ⟨gP, 0, none⟩ = some (.slice a acc.length c)

set_option maxRecDepth 100000 in
set_option maxHeartbeats 4000000 in
theorem visit_any {W0 : World} {n gC gF gN gP gV : Nat} {s : FamS} (hC : VisC W0 n gC gF gN gP gV s) (hn : n ≤ 1000) : ∀ (m : Nat) (q : Int) (l : List Nat) (acc : List Nat) (W : World), l.length < m → Vis (firstS s) (nextS s) q l → (∀ x ∈ l, x < n) → acc.length + l.length ≤ 1000000 → VisAt W0 W gP acc →
    Calls Try.prog 26 #[.int .i64 q, .pointer (pA gP), .pointer (pA gC), .pointer (pA gV)] W (VisEnd W0 gP (acc ++ l)) := by
  intro m
  induction m with
  | zero => intro q l acc W hl; omega
  | succ m ih =>
    intro q l acc W hl hv hx hb hat
    have HC := Lib.hid hC
    have HIH := Lib.hid ih
    have HL := Lib.hid hl
    have HX := Lib.hid hx
    have HB := Lib.hid hb
    have HV := Lib.hid hv
    have HA := Lib.hid hat
    have hnI : (n : Int) ≤ 1000 := by omega
    have HM := Lib.hid hn
    clear hC hn ih hl hv hx hb hat
    go_enter Try.func26, Try.ntmps26
    go_wp2
    go_loopg [0] l.length (fun g v0 W' => ∃ (q : Int) (done rest : List Nat), v0 = .int .i64 q ∧ Hid (done ++ rest = l) ∧ g = rest.length ∧ Hid (Vis (firstS s) (nextS s) q rest) ∧ Hid (VisAt W0 W' gP (acc ++ done)))
    case atStart => exact ⟨q, [], l, rfl, Lib.hid (by simp), rfl, HV, Lib.hid (by simpa using HA.out)⟩
    case round =>
      obtain ⟨q, done, rest, rfl, HD, hg, HVr, HAr⟩ := hrel
      rcases HVr.out.cases_ with ⟨hq, hr⟩ | ⟨x, l1, l2, hq, hr, h1, h2⟩
      · subst hq
        subst hr
        clear hg
        go_wp2
        refine bodyPost_end (results_none rfl _ _ _) rfl ?_
        refine ⟨rfl, ?_⟩
        have h := HAr.out
        have e := HD.out
        rw [List.append_nil] at e
        rw [e] at h
        exact h
      · subst hq
        subst hr
        have hxn : x < n := HX.out x (by rw [← HD.out]; simp)
        have hx0 : (0 : Int) ≤ (x : Int) := by omega
        have hxI : (x : Int) < (n : Int) := by omega
        have dx : ((x : Int) != -1) = true := bne_iff_ne.2 (by omega)
        obtain ⟨a, c, hbk, hown⟩ := HAr.out.box
        have hlen : (acc ++ done).length + 1 ≤ 1000000 := by
          have h3 := HB.out
          rw [← HD.out] at h3
          simp at h3 ⊢
          omega
        have HO := Lib.hid hown
        have HBK := Lib.hid hbk
        have cP : wr.cell? ⟨gP, 0, none⟩ = some (.slice a (acc ++ done).length c) := by rw [Lib.cell_of_heap hbk]; rfl
        have HXN := Lib.hid hxn
        have HLEN := Lib.hid hlen
        have HG := Lib.hid hg
        have HPZ := Lib.hid HC.out.p
        obtain ⟨al, hal⟩ : ∃ al, al = (acc ++ done).length := ⟨_, rfl⟩
        have HAL := Lib.hid hal
        rw [← hal] at cP
        have HO2 : Hid (Own1 N 3 wr W0.heap.size (.slice a al c) (acc ++ done)) := Lib.hid (by rw [HAL.out]; exact HO.out)
        have HBK2 : Hid (wr.heap[gP]? = some (.cells #[.slice a al c] 27 (0, 0))) := Lib.hid (by rw [HAL.out]; exact HBK.out)
        have H48 : Hid (((acc ++ done).length + 1) * (8 + 1) ≤ 140737488355328) := Lib.hid (by have := HLEN.out; omega)
        have HZ0 : Hid (∀ o, W0.heap.size ≤ (wr.alloc o).heap.size) := Lib.hid (fun o => by have := HAr.out.grown.size; simp; omega)
        have HA1 : Hid (al + 1 = (acc ++ done).length + 1) := Lib.hid (by rw [HAL.out])
        have HP3 := Lib.hid (fun a2 c2 W2 o (h2 : Own1 N 3 W2 W0.heap.size (.slice a2 (al + 1) c2) ((acc ++ done) ++ [x])) (hg : (wr.alloc o).grownBy W2 (Value.slice a al c).ownBlock) =>
          (show VisAt W0 (W2.setCell ⟨gP, 0, none⟩ (.slice a2 (al + 1) c2)) gP ((acc ++ done) ++ [x]) by
            rw [HAL.out] at h2 hg ⊢
            exact VisAt.put x HAr.out HPZ.out HBK.out HO.out o h2 hg))
        have HP4 := Lib.hid (fun W2 o (hg : (wr.alloc o).grownBy W2 (Value.slice a al c).ownBlock) => (show W2.heap[gP]? = some (.cells #[.slice a al c] 27 (0, 0)) by
          have h1 := HAr.out.grown.size
          have h2 := HPZ.out
          rw [hg.block gP (by simp; omega) (fun e => by have := (HO2.out.lt gP e.symm).1; omega), ← HBK2.out]
          exact heap_alloc_old (h := by omega) ..))
        clear hg hal hown hbk hlen hxn
        have HH1 := Lib.hid h1
        have HH2 := Lib.hid h2
        by_cases hnx : nextS s x = -1
        · have hnb : (nextS s x == -1) = true := by simp [hnx]
          have hl2 : l2 = [] := by
            rw [hnx] at h2
            rcases h2.cases_ with ⟨_, h⟩ | ⟨c, _, _, h, _⟩
            · exact h
            · omega
          have HE : Hid (done ++ [x] ++ l1 = l) := Lib.hid (by rw [← HD.out, hl2]; simp)
          clear hnx h1 h2 hl2
          go_wp2_with (at_builtin; go_must (refine app1 N oneN Try.underlying27 infoN rfl rfl (.tmp 7) (.tmp 9) rfl W0.heap.size _ (acc ++ done) rfl (HO2.out.alloc _) _ 1 1 [x] rfl (litAt _ _ x 3 rfl) H48.out (HZ0.out _) (al + 1) HA1.out ?_); intro a2 c2 W2 ho2 hg2; have HB3 := HP4.out _ _ hg2; have cP2 : W2.cell? ⟨gP, 0, none⟩ = some (.slice a al c) := (by rw [Lib.cell_of_heap HB3]; rfl); have fP2 : W2.frozen? ⟨gP, 0, none⟩ = false := Lib.frozen_of_heap HB3 0; have HV3 := Lib.hid (HP3.out _ _ _ _ ho2 hg2); obtain ⟨r1, r2, r3, r4, r5⟩ := HC.out.reads HV3.out.grown x HXN.out; clear HB3 ho2 hg2)
          go_roundg l1.length
          case measure => have := HG.out; simp at this; omega
          case rel => exact ⟨_, done ++ [x], l1, rfl, HE, rfl, HH1, Lib.hid (by rw [← List.append_assoc]; exact HV3.out)⟩
        · have hnb : (nextS s x == -1) = false := by simp [hnx]
          have HE : Hid (done ++ [x] ++ l1 ++ l2 = l) := Lib.hid (by rw [← HD.out]; simp)
          have hll : l1.length < m := by
            have e1 := HL.out
            rw [← HE.out] at e1
            simp at e1
            omega
          have hb1 : ((acc ++ done) ++ [x]).length + l1.length ≤ 1000000 := by
            have e1 := HB.out
            rw [← HE.out] at e1
            simp at e1 ⊢
            omega
          have CL := Lib.hid (fun W (h : VisAt W0 W gP ((acc ++ done) ++ [x])) => HIH.out (firstS s x) l1 ((acc ++ done) ++ [x]) W hll HH1.out (fun y hy => HX.out y (by rw [← HE.out]; simp [hy])) hb1 h)
          clear hnx h1 h2 hll hb1
          go_wp2_with (at_builtin; go_must (refine app1 N oneN Try.underlying27 infoN rfl rfl (.tmp 7) (.tmp 9) rfl W0.heap.size _ (acc ++ done) rfl (HO2.out.alloc _) _ 1 1 [x] rfl (litAt _ _ x 3 rfl) H48.out (HZ0.out _) (al + 1) HA1.out ?_); intro a2 c2 W2 ho2 hg2; have HB3 := HP4.out _ _ hg2; have cP2 : W2.cell? ⟨gP, 0, none⟩ = some (.slice a al c) := (by rw [Lib.cell_of_heap HB3]; rfl); have fP2 : W2.frozen? ⟨gP, 0, none⟩ = false := Lib.frozen_of_heap HB3 0; have HV3 := Lib.hid (HP3.out _ _ _ _ ho2 hg2); obtain ⟨r1, r2, r3, r4, r5⟩ := HC.out.reads HV3.out.grown x HXN.out; clear HB3 ho2 hg2)
          have HV4 : Hid (VisAt W0 (W2.setCell ⟨gP, 0, none⟩ (.slice a2 (al + 1) c2)).drew gP ((acc ++ done) ++ [x])) := Lib.hid (HV3.out.drew 1)
          clear cP2 fP2
          generalize hW3 : W2.setCell ⟨gP, 0, none⟩ (.slice a2 (al + 1) c2) = W3 at HV4 r1 r2 r3 r4 r5 ⊢
          clear hW3 HV3
          refine wp_region_still_tail 6 (by kernel_rfl) (by kernel_rfl) ?_
          simp only [List.take_succ_cons, List.take_zero, List.drop_succ_cons, List.drop_zero]
          iterate 6 still_step
          refine wpStill_nil ?_
          change wpList _ _ _ _ _ W3.drew
          clear r1 r2 r3 r4 r5
          generalize W3.drew = W4 at HV4 ⊢
          go_wp2_with (go_at_call 26; (with_reducible refine (CL.out _ HV4.out).mono ?_); rintro e W5 ⟨rfl, hv5⟩; have HV5 := Lib.hid hv5; obtain ⟨q1, q2, q3, q4, q5⟩ := HC.out.reads HV5.out.grown x HXN.out; clear hv5)
          go_roundg l2.length
          case measure => have := HG.out; simp at this; omega
          case rel => exact ⟨_, done ++ [x] ++ l1, l2, rfl, HE, rfl, HH2, Lib.hid (by have h := HV5.out; simpa using h)⟩
#print axioms visit_any
end Go.Proofs.Ytmenhbdapikpeaa

namespace Go.Proofs.Ytmenhbdapikpeaa
open Go.RowKit
/-- The struct stored whole into a block made just now. -/
theorem wl_storeC {w : World} {ops : Array Oper} {rest : List Oper} {o : Oper} {a : Act} {Q : Exit → Act → World → Prop} (hgd : o.guard = none) (x y : Operand) (ho : o.op = .store 61 x y) (v0 v1 v2 : Value) (hx : a.eval x = .pointer (pA w.heap.size)) (hy : a.eval y = .agg #[v0, v1, v2])
    (h1 : v0.oneCell' = true ∧ v1.oneCell' = true ∧ v2.oneCell' = true)
    (h : ∀ w', w'.heap[w.heap.size]? = some (.cells #[v0, v1, v2] 61 (0, 0)) → Below w.heap.size w w' → w'.heap.size = w.heap.size + 1 → wpList Try.prog ops Q rest (a.put o.dst undef) w') : wpList Try.prog ops Q (o :: rest) a (w.alloc (.cells zC 61)) := by
  have hg := heap_alloc_new w (.cells zC 61)
  refine wpList_store_row hgd 61 x y ho w.heap.size #[v0, v1, v2] hx hy 61 zC hg (by kernel_rfl) rfl ?_ (h _ (setRow_heap _ _ zC #[v0, v1, v2] _ _ hg) ?_ ?_)
  · rw [Array.all_eq_true_iff_forall_mem]
    intro v hv
    simp at hv
    rcases hv with rfl | rfl | rfl
    · exact h1.1
    · exact h1.2.1
    · exact h1.2.2
  · refine ⟨rfl, rfl, rfl, by simp [World.setRow], fun k hk => ?_⟩
    unfold World.setRow
    rw [Array.getElem?_modify, if_neg (by omega)]
    exact heap_alloc_old (h := hk) ..
  · simp [World.setRow]
set_option maxRecDepth 100000 in
set_option maxHeartbeats 400000 in
theorem order_no (a : Option Addr) (n c : Nat) (L : List NodeV) (w : World) (h : NodesAt w a n c L) (hn : n ≤ 1000) (hR : ¬ RightT L) :
    Calls Try.prog 12 #[.slice a n c] w fun e w' => e = .returned (.slice none 0 0) ∧ Below w.heap.size w w' := by
  have RI := Lib.hid (right_any a n c L w h hn false ⟨fun h => (Bool.false_ne_true h).elim, fun h => absurd h hR⟩)
  clear h hn hR
  go_enter Try.func12, Try.ntmps12
  go_wp2_with (go_at_call 10; (with_reducible refine RI.out.mono ?_); rintro e w1 ⟨rfl, hb1⟩; have HB1 := Lib.hid hb1; clear hb1)
  go_ret
  exact ⟨rfl, HB1.out⟩

/-- The world in which the closure is called. -/
abbrev visW (w3 : World) (gC : Nat) : World := (w3.alloc (.cells #[.slice none 0 0] 27)).alloc (.cells #[clT w3.heap.size gC (w3.heap.size + 1)] 63)
theorem vis_start {w w2 w3 : World} {n gC gF gN : Nat} {s : FamS} (hf : FamW w w2 n gC gF gN s) (hc : w3.heap[w2.heap.size]? = some (.cells #[M s.e, .slice (pA gF) n n, .slice (pA gN) n n] 61 (0, 0))) (hb : Below w2.heap.size w2 w3) (hs : w3.heap.size = w2.heap.size + 1) :
    VisC (visW w3 w2.heap.size) n w2.heap.size gF gN w3.heap.size (w3.heap.size + 1) s ∧ VisAt (visW w3 w2.heap.size) (visW w3 w2.heap.size) w3.heap.size [] ∧ (visW w3 w2.heap.size).cell? ⟨w2.heap.size, 0, none⟩ = some (.int .i64 (firstS s (-1))) ∧ Below w.heap.size w (visW w3 w2.heap.size) := by
  have hbV : Below w3.heap.size w3 (visW w3 w2.heap.size) := ((Below.refl w3.heap.size w3).alloc (Nat.le_refl _) _).alloc (by simp) _
  have hz : (visW w3 w2.heap.size).heap.size = w3.heap.size + 2 := by simp
  have hcV : (visW w3 w2.heap.size).heap[w2.heap.size]? = some (.cells #[M s.e, .slice (pA gF) n n, .slice (pA gN) n n] 61 (0, 0)) := by rw [hbV.block _ (by omega)]; exact hc
  have hb2 : Below w2.heap.size w2 (visW w3 w2.heap.size) := hb.trans (hbV.mono hb.size)
  have lF := (hf.F.lt gF rfl)
  have lN := (hf.N.lt gN rfl)
  have hfV : FamW w (visW w3 w2.heap.size) n w2.heap.size gF gN s :=
    ⟨hcV, hf.F.below hb2, hf.N.below hb2, hf.below.size, hf.below.trans (hb2.mono hf.below.size), by omega, by omega, hf.ne3⟩
  have hp : (visW w3 w2.heap.size).heap[w3.heap.size]? = some (.cells #[.slice none 0 0] 27 (0, 0)) := by
    show ((w3.alloc _).alloc _).heap[w3.heap.size]? = _
    rw [heap_alloc_old (h := by simp)]
    exact heap_alloc_new w3 _
  have hv : (visW w3 w2.heap.size).heap[w3.heap.size + 1]? = some (.cells #[clT w3.heap.size w2.heap.size (w3.heap.size + 1)] 63 (0, 0)) := by
    have h := heap_alloc_new (w3.alloc (.cells #[.slice none 0 0] 27)) (.cells #[clT w3.heap.size w2.heap.size (w3.heap.size + 1)] 63)
    rw [show (w3.alloc (.cells #[.slice none 0 0] 27)).heap.size = w3.heap.size + 1 from by simp] at h
    exact h
  refine ⟨⟨⟨w, hfV⟩, by rw [Lib.cell_of_heap hv]; rfl, by omega, by omega, by omega, by omega, by omega⟩, ⟨⟨rfl, rfl, rfl, Nat.le_refl _, fun _ _ _ => rfl⟩, none, 0, hp, Own1.nil⟩, by rw [Lib.cell_of_heap hcV]; rfl, hfV.below⟩
theorem visit_run {L : List NodeV} (hT : TreeP L) {W0 : World} {n gC gF gN gP gV : Nat} {s : FamS} (hL : L.length = n) (hn : n ≤ 1000) (hC : VisC W0 n gC gF gN gP gV s) (hF : Fam L (firstS s) (nextS s)) (h0 : VisAt W0 W0 gP []) :
    Calls Try.prog 26 #[.int .i64 (firstS s (-1)), .pointer (pA gP), .pointer (pA gC), .pointer (pA gV)] W0 fun e W' => ∃ l, e = .returned (.tuple #[]) ∧ OrdT L l ∧ VisAt W0 W' gP l := by
  obtain ⟨l, hv, ho⟩ := vis_all hT hF
  have hll := ordT_length ho
  refine (visit_any hC hn _ _ l [] W0 (Nat.lt_succ_self _) hv (fun x hx => by have := (ho.2 x).1 hx; omega) (by simp; omega) h0).mono ?_
  rintro e W' ⟨he, h⟩
  exact ⟨l, he, ho, by simpa using h⟩
theorem run_store_fn (P : Program) (w : World) (a : Addr) (f : Fn) (x y : Array Value) (m : Mode) : (store a (.func f x y) m).run P w = stored P w a (.func f x y) m := run_store P w a _ m rfl
set_option maxRecDepth 100000 in
set_option maxHeartbeats 4000000 in
theorem order_any (a : Option Addr) (n c : Nat) (L : List NodeV) (w : World) (h : NodesAt w a n c L) (hn : n ≤ 1000) (hR : RightT L) :
    Calls Try.prog 12 #[.slice a n c] w (OrdIs L w) := by
  have HL := Lib.hid h.1
  have HM := Lib.hid hn
  have HR := Lib.hid hR
  have RI := Lib.hid (right_any a n c L w h hn true ⟨fun _ => hR, fun _ => rfl⟩)
  have FA := Lib.hid (fun W (hb : Below w.heap.size w W) => family_any a n c L W (h.below hb) hn hR.2)
  have VI := Lib.hid (fun (s : FamS) (W0 : World) gC gF gN gP gV (hC : VisC W0 n gC gF gN gP gV s) (hFam : Fam L (firstS s) (nextS s)) (h0 : VisAt W0 W0 gP []) => visit_run hR.2 h.1 hn hC hFam h0)
  have hsf := fun (W : World) (A : Addr) (f : Fn) (x y : Array Value) (m : Mode) => run_store_fn Try.prog W A f x y m
  clear h hn hR
  go_enter Try.func12, Try.ntmps12
  go_wp2_with (first
    | (go_at_call 10; (with_reducible refine RI.out.mono ?_); rintro e w1 ⟨rfl, hb1⟩; have HB1 := Lib.hid hb1; clear hb1)
    | (go_at_call 25; (with_reducible refine (FA.out _ HB1.out).mono ?_); rintro e w2 ⟨gC, gF, gN, s, rfl, hf, hfam⟩; have HF := Lib.hid hf; have HFA := Lib.hid hfam; clear hf hfam)
    | (refine wl_storeC rfl _ _ rfl (M s.e) (.slice (pA gF) n n) (.slice (pA gN) n n) rfl rfl ⟨rfl, rfl, rfl⟩ ?_; intro w3 hc3 hb3 hs3; have HC3 := Lib.hid hc3; have HB3 := Lib.hid hb3; have HS3 := Lib.hid hs3; have HV := Lib.hid (vis_start HF.out hc3 hb3 hs3); have c0 := HV.out.2.2.1; clear hc3 hb3 hs3)
    | (go_at_call 26; (with_reducible refine (VI.out s _ _ _ _ _ _ HV.out.1 HFA.out HV.out.2.1).mono ?_); rintro e w9 ⟨l, rfl, hlo, hv9⟩; have HLO := Lib.hid hlo; have HV9 := Lib.hid hv9; obtain ⟨aP, cP, hbx, hox⟩ := hv9.box; have cp : w9.cell? ⟨w3.heap.size, 0, none⟩ = some (.slice aP l.length cP) := (by rw [Lib.cell_of_heap hbx]; rfl); have HOX := Lib.hid hox; clear hbx hox hlo hv9))
  have HLN := Lib.hid (ordT_length HLO.out)
  have HBW := Lib.hid (HB1.out.trans (HV.out.2.2.2.mono HB1.out.size))
  have HP := Lib.hid HV.out.1.p
  go_ret
  refine ⟨aP, cP, l, ?_, HLO.out, ?_, ?_⟩
  · rw [← HLN.out]; rfl
  · rw [← HLN.out]; exact HOX.out.mono HBW.out.size
  · exact HBW.out.grown HV9.out.grown HBW.out.size (fun k hk => by cases hk; have := HB3.out.size; have := HF.out.below.size; have := HB1.out.size; omega)
#print axioms order_any
end Go.Proofs.Ytmenhbdapikpeaa
