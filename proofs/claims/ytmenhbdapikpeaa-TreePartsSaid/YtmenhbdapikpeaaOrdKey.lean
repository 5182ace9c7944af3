/-
  Keys by value: the program's Keys and the document's.
-/
import Derived.Test.YtmenhbdapikpeaaOrdKeys
import Derived.Deep.RegionHeld
namespace Go.Proofs.Ytmenhbdapikpeaa
open Go.RowKit

/-- A key's cells. -/
def keyL (k : KeyV) : List Value := .int .i64 k.t :: (k.c.map B ++ [.int .i64 k.i])
def keyC (k : KeyV) : Array Value := (keyL k).toArray
/-- A block that holds a key. -/
def KeyAt (w : World) (g : Nat) (k : KeyV) : Prop := k.c.length = 32 ∧ w.heap[g]? = some (.cells (keyC k) 41 (0, 0))

theorem keyL_length {k : KeyV} (h : k.c.length = 32) : (keyL k).length = 34 := by simp [keyL, h]

theorem KeyAt.time {w : World} {g : Nat} {k : KeyV} (h : KeyAt w g k) : w.cell? ⟨g, 0, none⟩ = some (.int .i64 k.t) := by
  rw [cell_of_row w g 0 (keyC k) 41 (0, 0) h.2]; simp [keyC, keyL]
theorem KeyAt.index {w : World} {g : Nat} {k : KeyV} (h : KeyAt w g k) : w.cell? ⟨g, 33, none⟩ = some (.int .i64 k.i) := by
  rw [cell_of_row w g 33 (keyC k) 41 (0, 0) h.2]
  have := h.1
  simp [keyC, keyL, this]
theorem KeyAt.change {w : World} {g : Nat} {k : KeyV} (h : KeyAt w g k) : w.rangeAt g 1 (k.c.map B) := fun j v hj => by
  rw [cell_of_row w g (1 + j) (keyC k) 41 (0, 0) h.2]
  have hl : j < (k.c.map B).length := (List.getElem?_eq_some_iff.1 hj).1
  rw [show 1 + j = j + 1 from by omega]
  simp only [keyC, keyL, List.getElem?_toArray, List.getElem?_cons_succ]
  rw [List.getElem?_append_left hl]
  exact hj

theorem KeyAt.lt {w : World} {g : Nat} {k : KeyV} (h : KeyAt w g k) : g < w.heap.size := by
  rcases Nat.lt_or_ge g w.heap.size with h' | h'
  · exact h'
  · have := h.2
    rw [Array.getElem?_eq_none h'] at this; cases this
theorem KeyAt.below {w w' : World} {g : Nat} {k : KeyV} (h : KeyAt w g k) (hb : Below w.heap.size w w') : KeyAt w' g k := ⟨h.1, by rw [hb.block g h.lt]; exact h.2⟩

theorem two_keys (w : World) (a b : KeyV) (ha : a.c.length = 32) (hb : b.c.length = 32) :
    KeyAt ((w.alloc (.cells (keyC a) 41)).alloc (.cells (keyC b) 41)) w.heap.size a ∧
    KeyAt ((w.alloc (.cells (keyC a) 41)).alloc (.cells (keyC b) 41)) (w.heap.size + 1) b :=
  ⟨⟨ha, by rw [heap_alloc_old (h := by simp), heap_alloc_new]⟩,
   ⟨hb, by have := heap_alloc_new (w.alloc (.cells (keyC a) 41)) (.cells (keyC b) 41); simpa using this⟩⟩

def KeyIs (a b : KeyV) (w : World) (e : Ending) (w' : World) : Prop := e = .returned (.int .i64 (keyF a b)) ∧ Below w.heap.size w w'

theorem keyF_or (a b : KeyV) : keyF a b = orF (intF a.t b.t) (cmpF a.c b.c) (intF a.i b.i) := by
  unfold keyF orF intF
  repeat' split
  all_goals first | rfl | omega | simp_all

/-- The change's 32 bytes, loaded off a key. -/
theorem load_change {w : World} {ops : Array Oper} {rest : List Oper} {o : Oper} {a : Act} {Q : Exit → Act → World → Prop} (hgd : o.guard = none) (x : Operand) (ho : o.op = .load 39 x)
    (g : Nat) (k : KeyV) (hx : a.eval x = .pointer (some ⟨g, 1, none⟩)) (hg : KeyAt w g k)
    (h : wpList Try.prog ops Q rest (a.put o.dst (.agg (idCells k.c))) w) : wpList Try.prog ops Q (o :: rest) a w :=
  wpList_load_mid hgd _ x ho g 1 hx (k.c.map B) _ hg.change Try.underlying39 rfl (by rw [List.length_map, hg.1]; exact info_id) h

set_option maxRecDepth 100000 in
set_option maxHeartbeats 1000000 in
theorem refKeys_any (a b : KeyV) (w : World) (ha : a.c.length = 32) (hb : b.c.length = 32) :
    Calls Try.prog 22 #[.agg (keyC a), .agg (keyC b)] w (KeyIs a b w) := by
  obtain ⟨hA, hB⟩ := two_keys w a b ha hb
  have hbel : Below w.heap.size w ((w.alloc (.cells (keyC a) 41)).alloc (.cells (keyC b) 41)) := ((Below.refl _ _).alloc (Nat.le_refl _) _).alloc (by simp) _
  have ta := hA.time
  have tb := hB.time
  have HA := Lib.hid hA
  have HB := Lib.hid hB
  have HC := fun W => Lib.hid (refCompare_any a.c b.c W ha hb)
  have HBL := Lib.hid hbel
  have HK := Lib.hid (keyF_or a b)
  obtain ⟨at_, hat⟩ : ∃ x, x = a.t := ⟨_, rfl⟩
  obtain ⟨bt, hbt⟩ : ∃ x, x = b.t := ⟨_, rfl⟩
  rw [← hat] at ta
  rw [← hbt] at tb
  have HAT := Lib.hid hat
  have HBT := Lib.hid hbt
  clear hA hB ha hb hbel hat hbt
  by_cases h1 : at_ < bt
  · have HE := Lib.hid (show keyF a b = -1 by rw [HK.out]; unfold orF intF; rw [← HAT.out, ← HBT.out, if_pos h1]; rfl)
    go_enter Try.func22, Try.ntmps22
    go_wp2
    go_ret
    exact ⟨by rw [HE.out]; rfl, HBL.out⟩
  · by_cases h2 : bt < at_
    · have HE := Lib.hid (show keyF a b = 1 by rw [HK.out]; unfold orF intF; rw [← HAT.out, ← HBT.out, if_neg h1, if_pos h2]; rfl)
      have d1 : decide (at_ < bt) = false := decide_eq_false h1
      clear h1
      go_enter Try.func22, Try.ntmps22
      go_wp2
      go_ret
      exact ⟨by rw [HE.out]; rfl, HBL.out⟩
    · have d1 : decide (at_ < bt) = false := decide_eq_false h1
      have d2 : decide (bt < at_) = false := decide_eq_false h2
      have HE0 := Lib.hid (show keyF a b = orF 0 (cmpF a.c b.c) (intF a.i b.i) by rw [HK.out]; unfold intF; rw [← HAT.out, ← HBT.out, if_neg h1, if_neg h2])
      clear h1 h2
      obtain ⟨c0, hc0⟩ : ∃ x, x = cmpF a.c b.c := ⟨_, rfl⟩
      have HC0 := Lib.hid hc0
      by_cases h3 : c0 = 0
      · have d3 : (c0 != 0) = false := by simp [h3]
        have HE3 := Lib.hid (show keyF a b = intF a.i b.i by rw [HE0.out, ← hc0, h3]; rfl)
        clear h3 hc0
        obtain ⟨ai, hai⟩ : ∃ x, x = a.i := ⟨_, rfl⟩
        obtain ⟨bi, hbi⟩ : ∃ x, x = b.i := ⟨_, rfl⟩
        have HAI := Lib.hid hai
        have HBI := Lib.hid hbi
        clear hai hbi
        by_cases h4 : ai < bi
        · have HE := Lib.hid (show keyF a b = -1 by rw [HE3.out]; unfold intF; rw [← HAI.out, ← HBI.out, if_pos h4])
          go_enter Try.func22, Try.ntmps22
          go_wp2_with (first
            | ((with_reducible show wpList _ _ _ (⟨some 17, _, _, _, _, _⟩ :: _) _ _); go_must (refine load_change rfl _ rfl _ a rfl HA.out ?_))
            | ((with_reducible show wpList _ _ _ (⟨some 19, _, _, _, _, _⟩ :: _) _ _); go_must (refine load_change rfl _ rfl _ b rfl HB.out ?_))
            | (go_at_call 34; go_must (refine (HC _).out.mono ?_); rintro e w1 ⟨he, hb1⟩; rw [← HC0.out] at he; subst he; have ia := (HA.out.below hb1).index; have ib := (HB.out.below hb1).index; rw [← HAI.out] at ia; rw [← HBI.out] at ib))
          go_ret
          exact ⟨by rw [HE.out]; rfl, HBL.out.trans (hb1.mono HBL.out.size)⟩
        · by_cases h5 : bi < ai
          · have HE := Lib.hid (show keyF a b = 1 by rw [HE3.out]; unfold intF; rw [← HAI.out, ← HBI.out, if_neg h4, if_pos h5])
            have d4 : decide (ai < bi) = false := decide_eq_false h4
            clear h4
            go_enter Try.func22, Try.ntmps22
            go_wp2_with (first
              | ((with_reducible show wpList _ _ _ (⟨some 17, _, _, _, _, _⟩ :: _) _ _); go_must (refine load_change rfl _ rfl _ a rfl HA.out ?_))
              | ((with_reducible show wpList _ _ _ (⟨some 19, _, _, _, _, _⟩ :: _) _ _); go_must (refine load_change rfl _ rfl _ b rfl HB.out ?_))
              | (go_at_call 34; go_must (refine (HC _).out.mono ?_); rintro e w1 ⟨he, hb1⟩; rw [← HC0.out] at he; subst he; have ia := (HA.out.below hb1).index; have ib := (HB.out.below hb1).index; rw [← HAI.out] at ia; rw [← HBI.out] at ib))
            go_ret
            exact ⟨by rw [HE.out]; rfl, HBL.out.trans (hb1.mono HBL.out.size)⟩
          · have HE := Lib.hid (show keyF a b = 0 by rw [HE3.out]; unfold intF; rw [← HAI.out, ← HBI.out, if_neg h4, if_neg h5])
            have d4 : decide (ai < bi) = false := decide_eq_false h4
            have d5 : decide (bi < ai) = false := decide_eq_false h5
            clear h4 h5
            go_enter Try.func22, Try.ntmps22
            go_wp2_with (first
              | ((with_reducible show wpList _ _ _ (⟨some 17, _, _, _, _, _⟩ :: _) _ _); go_must (refine load_change rfl _ rfl _ a rfl HA.out ?_))
              | ((with_reducible show wpList _ _ _ (⟨some 19, _, _, _, _, _⟩ :: _) _ _); go_must (refine load_change rfl _ rfl _ b rfl HB.out ?_))
              | (go_at_call 34; go_must (refine (HC _).out.mono ?_); rintro e w1 ⟨he, hb1⟩; rw [← HC0.out] at he; subst he; have ia := (HA.out.below hb1).index; have ib := (HB.out.below hb1).index; rw [← HAI.out] at ia; rw [← HBI.out] at ib))
            go_ret
            exact ⟨by rw [HE.out]; rfl, HBL.out.trans (hb1.mono HBL.out.size)⟩
      · have d3 : (c0 != 0) = true := by simpa using h3
        have HE := Lib.hid (show keyF a b = c0 by rw [HE0.out, ← hc0]; unfold orF; rw [if_neg (by simp), if_pos h3])
        clear h3 hc0
        go_enter Try.func22, Try.ntmps22
        go_wp2_with (first
          | ((with_reducible show wpList _ _ _ (⟨some 17, _, _, _, _, _⟩ :: _) _ _); go_must (refine load_change rfl _ rfl _ a rfl HA.out ?_))
          | ((with_reducible show wpList _ _ _ (⟨some 19, _, _, _, _, _⟩ :: _) _ _); go_must (refine load_change rfl _ rfl _ b rfl HB.out ?_))
          | (go_at_call 34; go_must (refine (HC _).out.mono ?_); rintro e w1 ⟨he, hb1⟩; rw [← HC0.out] at he; subst he))
        go_ret
        exact ⟨by rw [HE.out]; rfl, HBL.out.trans (hb1.mono HBL.out.size)⟩
#print axioms refKeys_any
end Go.Proofs.Ytmenhbdapikpeaa
