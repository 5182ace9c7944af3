/-
  Merged: IdRefSet, IdConcat.
-/
import Derived.Test.YtkhcoefcifaaeaaDoorGrp17
import Derived.Deep.LoopGhost
import Derived.Lib.AppendZeros
namespace Go.Proofs.YtkhcoefcifaaeaaDoor
open Go.RowKit

theorem refIn_at (a : Option Addr) (n c : Nat) (l : List (List UInt8)) (x : List UInt8) (b : Bool) (w : World) (ha : IdsAt w a n c l) (hx : x.length = 32) (hn : n ≤ 1000000000) (hb : b = decide (x ∈ l)) :
    Calls Tryd.prog 42 #[.slice a n c, .agg (idCells x)] w fun e w' => e = .returned (.bool b) ∧ Below w.heap.size w w' := in_at a n c l x b w ha hx hn hb
theorem refSort_is (a : Option Addr) (n c : Nat) (l L : List (List UInt8)) (w0 w : World) (hb : IdsAt w a n c l) (hl : n ≤ 1000000000) (hL : L = sortF l) (h0 : Below w0.heap.size w0 w) :
    Calls Tryd.prog 58 #[.slice a n c] w (MadeI w0 L) := by
  subst hL
  refine (refSort_any a n c l w hb hl).mono ?_
  rintro e w' ⟨a1, n1, c1, rfl, ho, hbb⟩
  exact ⟨a1, n1, c1, rfl, ho.mono h0.size, h0.trans (hbb.mono h0.size)⟩
set_option maxRecDepth 100000 in
set_option maxHeartbeats 2000000 in
theorem refSet_any (a : Option Addr) (n c : Nat) (l : List (List UInt8)) (w : World) (ha : IdsAt w a n c l) (hn : n ≤ 1000000) :
    Calls Tryd.prog 43 #[.slice a n c] w (MadeI w (setF (l))) := by
  have HA := Lib.hid ha
  have HLN := Lib.hid ha.1
  have hnI : (n : Int) ≤ 1000000 := by omega
  have hn0 : (0 : Int) ≤ (n : Int) := by omega
  have HO := Lib.hid (OwnI.nil w w.heap.size)
  have HS := Lib.hid (show ([] : List (List UInt8)) = onceF [] (l.take 0) from rfl)
  clear ha hn
  go_enter Tryd.func43, Tryd.ntmps43
  go_wp2
  go_loopg [3, 4] n (fun g v3 v4 W => ∃ (i r : Nat) (S : List (List UInt8)) (aS : Option Addr) (cS : Nat), v3 = .slice aS r cS ∧ v4 = .int .i64 i ∧ g + i = n ∧ Hid (r ≤ i) ∧ Below w.heap.size w W ∧ Hid (OwnI W w.heap.size (.slice aS r cS) S) ∧ Hid (S.length = r) ∧ Hid (S = onceF [] (l.take i)))
  case atStart => exact ⟨0, 0, [], none, 0, rfl, rfl, rfl, Lib.hid (Nat.le_refl _), Below.refl _ _, HO, Lib.hid rfl, HS⟩
  case round =>
    clear HO HS
    obtain ⟨i, r, S, aS, cS, rfl, rfl, hg, HRI, hbw, HOW, HSL, HS⟩ := hrel
    have HG := Lib.hid hg
    have hi0 : (0 : Int) ≤ (i : Int) := by omega
    have hiI : (i : Int) ≤ (n : Int) := by omega
    by_cases hi : (i : Int) < (n : Int)
    · obtain ⟨ba, oa, rfl⟩ := HA.out.some_ (by omega)
      obtain ⟨x, hx⟩ : ∃ x, x = l.getD i [] := ⟨_, rfl⟩
      have HXE := Lib.hid hx
      have HX := Lib.hid (show x.length = 32 by rw [hx]; exact getD_32 HA.out.2.2.2.1 (by rw [HLN.out]; omega))
      have HCA := Lib.hid (show wr.rangeAt ba (oa + i * 32) (x.map B) by have := (HA.out.below hbw).at_ i (by omega); rwa [← hx] at this)
      have HIN := Lib.hid (show i < n by omega)
      have HBS := Lib.hid hbw.size
      obtain ⟨q, hq⟩ : ∃ q, q = decide (x ∈ S) := ⟨_, rfl⟩
      have HQ := Lib.hid hq
      have HC := Lib.hid (refIn_at aS r cS S x q wr HOW.out.isIds HX.out (by have := HRI.out; omega) hq)
      clear hg hx hq
      cases q with
      | true =>
        go_wp2_with (first
          | ((with_reducible show wpList _ _ _ (⟨some 15, _, _, _, _, _⟩ :: _) _ _); refine wl_load (wanted_plain rfl) _ rfl ba (oa + i * 32) x HX.out rfl HCA.out ?_)
          | (go_at_call 42; go_must (refine HC.out.mono ?_); rintro e w3 ⟨rfl, hb3⟩))
        have HN := Lib.hid (show S = onceF [] (l.take (i + 1)) by rw [take_snoc (by rw [HLN.out]; exact HIN.out), ← HXE.out, onceF_snoc, ← HS.out, if_pos (of_decide_eq_true HQ.out.symm)])
        go_roundg (gk - 1)
        case measure => have := HG.out; omega
        case rel => exact ⟨i + 1, r, S, aS, cS, rfl, by go_num, by have := HG.out; omega, Lib.hid (by have := HRI.out; omega), hbw.trans (hb3.mono HBS.out), Lib.hid (HOW.out.below hb3), HSL, HN⟩
      | false =>
        have H48 := Lib.hid (show (S.length + 1) * 32 ≤ 140737488355328 by rw [HSL.out]; have := HRI.out; have := HIN.out; omega)
        go_wp2_with (first
          | ((with_reducible show wpList _ _ _ (⟨some 15, _, _, _, _, _⟩ :: _) _ _); refine wl_load (wanted_plain rfl) _ rfl ba (oa + i * 32) x HX.out rfl HCA.out ?_)
          | (go_at_call 42; go_must (refine HC.out.mono ?_); rintro e w3 ⟨rfl, hb3⟩; have HCA3 := Lib.hid (rangeAt_below HCA.out hb3); have HBS3 := Lib.hid (Nat.le_trans HBS.out hb3.size); have HOWA := Lib.hid ((HOW.out.below hb3).alloc (.cells (idCells x) 24)); have HIDS := Lib.hid (ids_new w3 HX.out); have HBA := Lib.hid (show w.heap.size ≤ (w3.alloc (.cells (idCells x) 24)).heap.size by have := HBS3.out; simp; omega))
          | ((with_reducible show wpList _ _ _ (⟨some 22, _, _, _, _, _⟩ :: _) _ _); refine wl_load (wanted_plain rfl) _ rfl ba (oa + i * 32) x HX.out rfl HCA3.out ?_)
          | ((with_reducible show wpList _ _ _ (⟨some 23, _, _, _, _, _⟩ :: _) _ _); refine wl_one rfl _ rfl x HX.out rfl ?_)
          | (at_builtin; go_must (refine app_ids rfl (.tmp 18) (.tmp 23) rfl w.heap.size _ S rfl HOWA.out _ 1 1 [x] rfl HIDS.out H48.out HBA.out ?_); intro v' w1 hown1 hgr1))
        have HBW3 := Lib.hid (hbw.trans (hb3.mono HBS.out))
        obtain ⟨g, cv, hv, hgb, hown, hbw1⟩ := (more_of (base := w.heap.size) hown1 (by simp) (HBW3.out.alloc HBS3.out _) hgr1 (fun k hk => (HOWA.out.lt k hk).1) HBA.out)
        have HV := Lib.hid (show (S ++ [x]).length = r + 1 by simp [HSL.out])
        rw [HV.out] at hv
        subst hv
        have HN := Lib.hid (show S ++ [x] = onceF [] (l.take (i + 1)) by rw [take_snoc (by rw [HLN.out]; exact HIN.out), ← HXE.out, onceF_snoc, ← HS.out, if_neg (of_decide_eq_false HQ.out.symm)])
        go_roundg (gk - 1)
        case measure => have := HG.out; omega
        case rel => exact ⟨i + 1, r + 1, S ++ [x], some ⟨g, 0, none⟩, cv, rfl, by go_num, by have := HG.out; omega, Lib.hid (by have := HRI.out; omega), hbw1, Lib.hid hown, HV, HN⟩
    · have HF := Lib.hid (show S = onceF [] l by rw [HS.out, List.take_of_length_le (by rw [HLN.out]; omega)])
      have HIS := Lib.hid HOW.out.isIds
      have HRN := Lib.hid (show r ≤ 1000000 by have := HRI.out; omega)
      clear hg
      go_wp2_with (go_at_call 58; go_must (refine (refSort_is aS r cS S (setF l) w wr HIS.out (by have := HRN.out; omega) (by rw [HF.out]; rfl) hbw).mono ?_); rintro e w1 ⟨a1, n1, c1, rfl, ho1, hb1⟩)
      go_ret
      exact ⟨a1, n1, c1, rfl, ho1, hb1⟩
#print axioms refSet_any
theorem refSet_is (a : Option Addr) (n c : Nat) (l L : List (List UInt8)) (w0 w : World) (hb : IdsAt w a n c l) (hl : n ≤ 1000000) (hL : L = setF l) (h0 : Below w0.heap.size w0 w) :
    Calls Tryd.prog 43 #[.slice a n c] w (MadeI w0 L) := by
  subst hL
  refine (refSet_any a n c l w hb hl).mono ?_
  rintro e w' ⟨a1, n1, c1, rfl, ho, hbb⟩
  exact ⟨a1, n1, c1, rfl, ho.mono h0.size, h0.trans (hbb.mono h0.size)⟩

set_option maxRecDepth 100000 in
set_option maxHeartbeats 2000000 in
theorem refMinus_any (a : Option Addr) (n c : Nat) (l : List (List UInt8)) (b : Option Addr) (m d : Nat) (k : List (List UInt8)) (w : World) (ha : IdsAt w a n c l) (hb : IdsAt w b m d k) (hn : n ≤ 1000000) (hm : m ≤ 1000000) :
    Calls Tryd.prog 23 #[.slice a n c, .slice b m d] w (MadeI w (setF (inF k false l))) := by
  have HA := Lib.hid ha
  have HLN := Lib.hid ha.1
  have HB := Lib.hid hb
  have HM := Lib.hid (show m ≤ 1000000000 by omega)
  have hnI : (n : Int) ≤ 1000000 := by omega
  have hn0 : (0 : Int) ≤ (n : Int) := by omega
  have HO := Lib.hid (OwnI.nil w w.heap.size)
  have HS := Lib.hid (show ([] : List (List UInt8)) = inF k false (l.take 0) from rfl)
  clear ha hn hb hm
  go_enter Tryd.func23, Tryd.ntmps23
  go_wp2
  go_loopg [5, 6] n (fun g v3 v4 W => ∃ (i r : Nat) (S : List (List UInt8)) (aS : Option Addr) (cS : Nat), v3 = .slice aS r cS ∧ v4 = .int .i64 i ∧ g + i = n ∧ Hid (r ≤ i) ∧ Below w.heap.size w W ∧ Hid (OwnI W w.heap.size (.slice aS r cS) S) ∧ Hid (S.length = r) ∧ Hid (S = inF k false (l.take i)))
  case atStart => exact ⟨0, 0, [], none, 0, rfl, rfl, rfl, Lib.hid (Nat.le_refl _), Below.refl _ _, HO, Lib.hid rfl, HS⟩
  case round =>
    clear HO HS
    obtain ⟨i, r, S, aS, cS, rfl, rfl, hg, HRI, hbw, HOW, HSL, HS⟩ := hrel
    have HG := Lib.hid hg
    have hi0 : (0 : Int) ≤ (i : Int) := by omega
    have hiI : (i : Int) ≤ (n : Int) := by omega
    by_cases hi : (i : Int) < (n : Int)
    · obtain ⟨ba, oa, rfl⟩ := HA.out.some_ (by omega)
      obtain ⟨x, hx⟩ : ∃ x, x = l.getD i [] := ⟨_, rfl⟩
      have HXE := Lib.hid hx
      have HX := Lib.hid (show x.length = 32 by rw [hx]; exact getD_32 HA.out.2.2.2.1 (by rw [HLN.out]; omega))
      have HCA := Lib.hid (show wr.rangeAt ba (oa + i * 32) (x.map B) by have := (HA.out.below hbw).at_ i (by omega); rwa [← hx] at this)
      have HIN := Lib.hid (show i < n by omega)
      have HBS := Lib.hid hbw.size
      obtain ⟨q, hq⟩ : ∃ q, q = decide (x ∈ k) := ⟨_, rfl⟩
      have HQ := Lib.hid hq
      have HC := Lib.hid (refIn_at b m d k x q wr (HB.out.below hbw) HX.out HM.out hq)
      clear hg hx hq
      cases q with
      | true =>
        go_wp2_with (first
          | ((with_reducible show wpList _ _ _ (⟨some 17, _, _, _, _, _⟩ :: _) _ _); refine wl_load (wanted_plain rfl) _ rfl ba (oa + i * 32) x HX.out rfl HCA.out ?_)
          | (go_at_call 42; go_must (refine HC.out.mono ?_); rintro e w3 ⟨rfl, hb3⟩))
        have HN := Lib.hid (show S = inF k false (l.take (i + 1)) by rw [take_snoc (by rw [HLN.out]; exact HIN.out), ← HXE.out, inF_snoc, ← HS.out, if_neg (fun h => Bool.noConfusion (HQ.out.trans h))])
        go_roundg (gk - 1)
        case measure => have := HG.out; omega
        case rel => exact ⟨i + 1, r, S, aS, cS, rfl, by go_num, by have := HG.out; omega, Lib.hid (by have := HRI.out; omega), hbw.trans (hb3.mono HBS.out), Lib.hid (HOW.out.below hb3), HSL, HN⟩
      | false =>
        have H48 := Lib.hid (show (S.length + 1) * 32 ≤ 140737488355328 by rw [HSL.out]; have := HRI.out; have := HIN.out; omega)
        go_wp2_with (first
          | ((with_reducible show wpList _ _ _ (⟨some 17, _, _, _, _, _⟩ :: _) _ _); refine wl_load (wanted_plain rfl) _ rfl ba (oa + i * 32) x HX.out rfl HCA.out ?_)
          | (go_at_call 42; go_must (refine HC.out.mono ?_); rintro e w3 ⟨rfl, hb3⟩; have HCA3 := Lib.hid (rangeAt_below HCA.out hb3); have HBS3 := Lib.hid (Nat.le_trans HBS.out hb3.size); have HOWA := Lib.hid ((HOW.out.below hb3).alloc (.cells (idCells x) 24)); have HIDS := Lib.hid (ids_new w3 HX.out); have HBA := Lib.hid (show w.heap.size ≤ (w3.alloc (.cells (idCells x) 24)).heap.size by have := HBS3.out; simp; omega))
          | ((with_reducible show wpList _ _ _ (⟨some 24, _, _, _, _, _⟩ :: _) _ _); refine wl_load (wanted_plain rfl) _ rfl ba (oa + i * 32) x HX.out rfl HCA3.out ?_)
          | ((with_reducible show wpList _ _ _ (⟨some 25, _, _, _, _, _⟩ :: _) _ _); refine wl_one rfl _ rfl x HX.out rfl ?_)
          | (at_builtin; go_must (refine app_ids rfl (.tmp 20) (.tmp 25) rfl w.heap.size _ S rfl HOWA.out _ 1 1 [x] rfl HIDS.out H48.out HBA.out ?_); intro v' w1 hown1 hgr1))
        have HBW3 := Lib.hid (hbw.trans (hb3.mono HBS.out))
        obtain ⟨g, cv, hv, hgb, hown, hbw1⟩ := (more_of (base := w.heap.size) hown1 (by simp) (HBW3.out.alloc HBS3.out _) hgr1 (fun k hk => (HOWA.out.lt k hk).1) HBA.out)
        have HV := Lib.hid (show (S ++ [x]).length = r + 1 by simp [HSL.out])
        rw [HV.out] at hv
        subst hv
        have HN := Lib.hid (show S ++ [x] = inF k false (l.take (i + 1)) by rw [take_snoc (by rw [HLN.out]; exact HIN.out), ← HXE.out, inF_snoc, ← HS.out, if_pos (HQ.out.symm)])
        go_roundg (gk - 1)
        case measure => have := HG.out; omega
        case rel => exact ⟨i + 1, r + 1, S ++ [x], some ⟨g, 0, none⟩, cv, rfl, by go_num, by have := HG.out; omega, Lib.hid (by have := HRI.out; omega), hbw1, Lib.hid hown, HV, HN⟩
    · have HF := Lib.hid (show S = inF k false l by rw [HS.out, List.take_of_length_le (by rw [HLN.out]; omega)])
      have HIS := Lib.hid HOW.out.isIds
      have HRN := Lib.hid (show r ≤ 1000000 by have := HRI.out; omega)
      clear hg
      go_wp2_with (go_at_call 43; go_must (refine (refSet_is aS r cS S (setF (inF k false l)) w wr HIS.out HRN.out (by rw [HF.out]) hbw).mono ?_); rintro e w1 ⟨a1, n1, c1, rfl, ho1, hb1⟩)
      go_ret
      exact ⟨a1, n1, c1, rfl, ho1, hb1⟩
#print axioms refMinus_any
/-- An append, its result written out. -/
theorem app_slice {w : World} {ops : Array Oper} {rest : List Oper} {o : Oper} {a : Act} {Q : Exit → Act → World → Prop} (hgd : o.guard = none) (s x : Operand)
    (ho : o.op = .call { callee := .builtin .append, args := #[s, x], argTypes := #[39, 39] })
    (base : Nat) (v : Value) (l : List (List UInt8)) (hs : a.eval s = v) (hown : OwnI w base v l)
    (sa : Option Addr) (m c : Nat) (src : List (List UInt8)) (hx : a.eval x = .slice sa m c) (hsrc : IdsAt w sa m c src)
    (h48 : (l.length + m) * 32 ≤ 140737488355328) (hbase : base ≤ w.heap.size) (r : Nat) (hr : r = l.length + m)
    (h : ∀ a' c' w', OwnI w' base (.slice a' r c') (l ++ src) → w.grownBy w' v.ownBlock → wpList Tryd.prog ops Q rest (a.put o.dst (.slice a' r c')) w') : wpList Tryd.prog ops Q (o :: rest) a w := by
  refine app_ids hgd s x ho base v l hs hown sa m c src hx hsrc h48 hbase ?_
  intro v' w' h1 h2
  obtain ⟨a', c', rfl, _⟩ := h1.ids
  have e : (l ++ src).length = r := by rw [List.length_append, hsrc.1, hr]
  rw [e] at h1 ⊢
  exact h a' c' w' h1 h2

end Go.Proofs.YtkhcoefcifaaeaaDoor

namespace Go.Proofs.YtkhcoefcifaaeaaDoor
open Go.RowKit

/-- New memory with room, nothing laid yet. -/
def GrownI (w : World) (e : Ending) (w' : World) : Prop := ∃ a c, e = .returned (.slice a 0 c) ∧ OwnI w' w.heap.size (.slice a 0 c) [] ∧ Below w.heap.size w w'

theorem zerosI_own (w : World) (n cap : Nat) (hn : n ≤ cap) (hc : cap ≤ maxLen) (base : Nat) (hb : base ≤ w.heap.size) :
    OwnI (w.drew.alloc (.cells (Builtin.zeroCells (Value.agg (idCells idZero)).cells n ++ Builtin.zeroCells (Value.agg (idCells idZero)).cells (cap - n)) 24)) base (.slice (some ⟨w.heap.size, 0, none⟩) 0 cap) [] := by
  refine ⟨⟨rfl, .inr ⟨w.heap.size, cap, _, rfl, hb, heap_alloc_new w.drew _, Nat.zero_le _, hc, ?_, by simp [flat]⟩⟩, (fun _ h => by cases h)⟩
  have h1 : (Value.agg (idCells idZero)).cells.size = 32 := idCells_size idZero_length
  simp only [Array.size_append, size_zeroCells, h1]
  omega

/-- How many ids the first parts hold. -/
def sumI (ls : List (List (List UInt8))) (j : Nat) : Nat := ((ls.take j).flatten).length
theorem takeI_next (ls : List (List (List UInt8))) (j : Nat) (h : j < ls.length) : (ls.take (j + 1)).flatten = (ls.take j).flatten ++ ls.getD j [] := by
  rw [List.take_succ_eq_append_getElem h, List.flatten_append]; simp [h]
theorem sumI_next (ls : List (List (List UInt8))) (j n : Nat) (h : j < ls.length) (hn : (ls.getD j []).length = n) : sumI ls (j + 1) = sumI ls j + n := by
  unfold sumI; rw [takeI_next ls j h, List.length_append, hn]
theorem sumI_le (ls : List (List (List UInt8))) (j : Nat) : sumI ls j ≤ ls.flatten.length := by
  unfold sumI
  have : ls.flatten.length = ((ls.take j).flatten).length + ((ls.drop j).flatten).length := by
    rw [← List.length_append, ← List.flatten_append, List.take_append_drop]
  omega
theorem sumI_all (ls : List (List (List UInt8))) (j : Nat) (h : ls.length ≤ j) : sumI ls j = ls.flatten.length := by
  unfold sumI; rw [List.take_of_length_le h]

/-- The parts that were handed over. -/
def PartsI (w : World) (g : Nat) (ls : List (List (List UInt8))) : Prop := ∀ j, j < ls.length → ∃ a n c, w.cell? ⟨g, j, none⟩ = some (.slice a n c) ∧ IdsAt w a n c (ls.getD j [])
theorem PartsI.below {w w' : World} {g : Nat} {ls : List (List (List UInt8))} (h : PartsI w g ls) (hb : Below w.heap.size w w') : PartsI w' g ls := fun j hj => by
  obtain ⟨a, n, c, h1, h2⟩ := h j hj
  exact ⟨a, n, c, (hb.cell (World.block_lt_of_cell? _ _ h1)).trans h1, h2.below hb⟩

theorem set_of (a : Option Addr) (n c m : Nat) (l L : List (List UInt8)) (w0 w : World) (hb : IdsAt w a n c l) (hl : n ≤ 1000000000) (hL : L = setF l) (hm : m = L.length) (h0 : Below w0.heap.size w0 w) :
    Calls Tryd.prog 52 #[.slice a n c] w fun e w' => ∃ a1 c1, e = .returned (.slice a1 m c1) ∧ IdsAt w' a1 m c1 L ∧ Below w0.heap.size w0 w' := by
  subst hL
  refine (set_at a n c m l w hb hl hm).mono ?_
  rintro e w' ⟨a1, c1, rfl, h1, h2⟩
  exact ⟨a1, c1, rfl, h1, h0.trans (h2.mono h0.size)⟩

theorem parts_two {w : World} {g : Nat} {a b : Option Addr} {n c m d : Nat} {l k : List (List UInt8)} {ty : TypeId} (h : w.heap[g]? = some (.cells #[.slice a n c, .slice b m d] ty (0, 0))) (ha : IdsAt w a n c l) (hb : IdsAt w b m d k) : PartsI w g [l, k] := by
  intro j hj
  have hc : j = 0 ∨ j = 1 := by simp at hj; omega
  rcases hc with rfl | rfl
  · exact ⟨a, n, c, by rw [cell_of_row w g 0 _ ty (0, 0) h]; rfl, ha⟩
  · exact ⟨b, m, d, by rw [cell_of_row w g 1 _ ty (0, 0) h]; rfl, hb⟩

end Go.Proofs.YtkhcoefcifaaeaaDoor
