/-
  Merged: Name, OrdRefCmp, IdFns, RfZero, RfNames.
-/
import Derived.Test.YthihmlojdopmfaaDoorGrp7
import Derived.Test.YthihmlojdopmfaaDoorGrp1
import Derived.Test.YthihmlojdopmfaaDoorGrp4
import Derived.Deep.LoopGhost
import Derived.IntWalk
import Derived.Laws.Cover1
import Derived.Sort.Walk0
import Derived.Deep.RegionHeld
namespace Go.Proofs.YthihmlojdopmfaaDoor
open Go.RowKit

theorem each_named_is (s : ByteArray) (c : Bool) (w : World) (h : s.data.toList.all nmB = c) :
  Calls Tryd.prog 83 #[.string s, .func (.func 82) #[] #[]] w fun e w' => e = .returned (.bool c) ∧ Below w.heap.size w w' := by subst h; exact each_named s w

theorem nameF_eq (s : List UInt8) : nameF s = (decide (1 ≤ s.length) && decide (s.length ≤ 32) && s.all nmB && s.getD 0 0 != 46 && s.getD 0 0 != 45 && s != [72, 69, 65, 68]) := rfl

set_option maxRecDepth 100000 in
set_option maxHeartbeats 1000000 in
theorem name_any (s : ByteArray) (w : World) :
  Calls Tryd.prog 57 #[.string s] w fun e w' => e = .returned (.bool (nameF s.data.toList)) ∧ Below w.heap.size w w' := by
 obtain ⟨r, hr⟩ : ∃ r, r = nameF s.data.toList := ⟨_, rfl⟩
 rw [← hr]
 rw [nameF_eq, b_len] at hr
 have HR := Lib.hid hr
 clear hr
 obtain ⟨c1, h1⟩ : ∃ c, (decide ((1 : Int) ≤ (s.size : Int)) && decide ((s.size : Int) ≤ 32)) = c := ⟨_, rfl⟩
 have H1 := Lib.hid (fun w => sized_is s 1 32 c1 w h1)
 obtain ⟨c2, h2⟩ : ∃ c, s.data.toList.all nmB = c := ⟨_, rfl⟩
 have H2 := Lib.hid (fun w => each_named_is s c2 w h2)
 have E1 := Lib.hid h1
 have E2 := Lib.hid h2
 rcases c1
 ·clear h1 h2
  go_enter Tryd.func57, Tryd.ntmps57
  go_wp2_with (go_at_call 70; (with_reducible refine (H1.out _).mono ?_); rintro e w1 ⟨rfl, rfl⟩)
  go_ret
  refine ⟨retBl ?_, Below.refl _ _⟩
  symm
  rw [HR.out]
  have := E1.out
  simp only [Bool.and_eq_false_iff, decide_eq_false_iff_not] at this
  rcases this with h | h
  ·rw [decide_eq_false (p := 1 ≤ s.size) (by omega)]; rfl
  ·rw [decide_eq_false (p := s.size ≤ 32) (by omega)]; simp
 ·simp only [Bool.and_eq_true, decide_eq_true_eq] at h1
  have h0 : 0 < s.size := by omega
  have h0I : (0 : Int) < (s.size : Int) := by omega
  have E1 := Lib.hid h1
  rcases c2
  ·clear h1 h2
   go_enter Tryd.func57, Tryd.ntmps57
   go_wp2_with (first
    | (go_at_call 70; (with_reducible refine (H1.out _).mono ?_); rintro e w1 ⟨rfl, rfl⟩)
    | (go_at_call 83; (with_reducible refine (H2.out _).mono ?_); rintro e w1 ⟨rfl, hb⟩))
   go_ret
   refine ⟨retBl ?_, hb⟩
   rw [HR.out, E2.out]; simp
  ·have hat := b_at s 0 h0
   have HH := Lib.hid (show r = (s.data.toList.getD 0 0 != 46 && s.data.toList.getD 0 0 != 45 && s.data.toList != [72, 69, 65, 68]) by
    rw [HR.out, E2.out, decide_eq_true (p := 1 ≤ s.size) (by omega), decide_eq_true (p := s.size ≤ 32) (by omega)]; rfl)
   by_cases g1 : ((s[0]'h0).toNat : Int) = 46
   ·have HX := Lib.hid (show r = false by
     rw [HH.out, ← hat, show (s[0]'h0) = 46 from by apply UInt8.toNat_inj.1; show (s[0]'h0).toNat = 46; omega]; rfl)
    clear h1 h2 hat
    go_enter Tryd.func57, Tryd.ntmps57
    go_wp2_with (first
     | (go_at_call 70; (with_reducible refine (H1.out _).mono ?_); rintro e w1 ⟨rfl, rfl⟩)
     | (go_at_call 83; (with_reducible refine (H2.out _).mono ?_); rintro e w1 ⟨rfl, hb⟩))
    go_ret
    exact ⟨retBl HX.out.symm, hb⟩
   ·have n1 : ((s[0]'h0) != 46) = true := by rw [bne_iff_ne]; intro e; apply g1; rw [e]; rfl
    by_cases g2 : ((s[0]'h0).toNat : Int) = 45
    ·have HX := Lib.hid (show r = false by
      rw [HH.out, ← hat, show (s[0]'h0) = 45 from by apply UInt8.toNat_inj.1; show (s[0]'h0).toNat = 45; omega]; rfl)
     have g3 : (((s[0]'h0).toNat : Int) != 46) = true := by rw [bne_iff_ne]; exact g1
     clear h1 h2 hat
     go_enter Tryd.func57, Tryd.ntmps57
     go_wp2_with (first
      | (go_at_call 70; (with_reducible refine (H1.out _).mono ?_); rintro e w1 ⟨rfl, rfl⟩)
      | (go_at_call 83; (with_reducible refine (H2.out _).mono ?_); rintro e w1 ⟨rfl, hb⟩))
     go_ret
     exact ⟨retBl HX.out.symm, hb⟩
    ·have n2 : ((s[0]'h0) != 45) = true := by rw [bne_iff_ne]; intro e; apply g2; rw [e]; rfl
     have g3 : (((s[0]'h0).toNat : Int) != 46) = true := by rw [bne_iff_ne]; exact g1
     have g4 : (((s[0]'h0).toNat : Int) != 45) = true := by rw [bne_iff_ne]; exact g2
     have HX := Lib.hid (show r = !(s.toList == [72, 69, 65, 68]) by
      rw [HH.out, ← hat, n1, n2, Lib.toList_data]; rfl)
     clear h1 h2 hat
     go_enter Tryd.func57, Tryd.ntmps57
     go_wp2_with (first
      | (go_at_call 70; (with_reducible refine (H1.out _).mono ?_); rintro e w1 ⟨rfl, rfl⟩)
      | (go_at_call 83; (with_reducible refine (H2.out _).mono ?_); rintro e w1 ⟨rfl, hb⟩))
     go_ret
     exact ⟨retBl (by rw [HX.out]), hb⟩
end Go.Proofs.YthihmlojdopmfaaDoor

namespace Go.Proofs.YthihmlojdopmfaaDoor
open Go.RowKit

def SameTo (l k : List UInt8) (j : Nat) : Prop := l.take j = k.take j

theorem SameTo.lt {l k : List UInt8} {j : Nat} (h : SameTo l k j) (hl : j < l.length) (hk : j < k.length) (hc : (l.getD j 0).toNat < (k.getD j 0).toNat) : cmpF l k = -1 := by
 rw [cmpF_at j l k h hl hk, if_pos hc]
theorem SameTo.next {l k : List UInt8} {j : Nat} (h : SameTo l k j) (hl : j < l.length) (hk : j < k.length) (h1 : ¬ (l.getD j 0).toNat < (k.getD j 0).toNat) (h2 : ¬ (k.getD j 0).toNat < (l.getD j 0).toNat) : SameTo l k (j + 1) := by
 unfold SameTo at h ⊢
 rw [List.take_succ_eq_append_getElem hl, List.take_succ_eq_append_getElem hk, h]
 have e : (l.getD j 0) = (k.getD j 0) := UInt8.toNat_inj.1 (by omega)
 simp [hl, hk] at e
 rw [e]
theorem SameTo.all {l k : List UInt8} (h : SameTo l k 32) (hl : l.length = 32) (hk : k.length = 32) : cmpF l k = 0 := by
 unfold SameTo at h
 rw [List.take_of_length_le (by omega), List.take_of_length_le (by omega)] at h
 rw [h, cmpF_self]

end Go.Proofs.YthihmlojdopmfaaDoor

namespace Go.Proofs.YthihmlojdopmfaaDoor
open Go.RowKit

def NotTo (l : List (List UInt8)) (x : List UInt8) (j : Nat) : Prop := ∀ i, i < j → l.getD i [] ≠ x
theorem NotTo.next {l : List (List UInt8)} {x : List UInt8} {j : Nat} (h : NotTo l x j) (hn : l.getD j [] ≠ x) : NotTo l x (j + 1) := fun i hi => by
 rcases Nat.lt_or_ge i j with h1 | h1
 ·exact h i h1
 ·obtain rfl : i = j := by omega
  exact hn
theorem NotTo.end {l : List (List UInt8)} {x : List UInt8} (h : NotTo l x l.length) : x ∉ l := fun hx => by
 obtain ⟨i, hi, rfl⟩ := List.getElem_of_mem hx
 exact h i hi (by simp [hi])
theorem idAt_new (w : World) (x : List UInt8) (hx : x.length = 32) : IdAt (w.alloc (.cells (idCells x) 24)) w.heap.size x := ⟨hx, heap_alloc_new w _⟩

def UpTo (l : List (List UInt8)) (j : Nat) : Prop := ∀ i, i + 1 < j → cmpF (l.getD i []) (l.getD (i + 1) []) < 0
theorem UpTo.next {l : List (List UInt8)} {j : Nat} (h : UpTo l j) (hc : cmpF (l.getD (j - 1) []) (l.getD j []) < 0) : UpTo l (j + 1) := fun i hi => by
 rcases Nat.lt_or_ge (i + 1) j with h1 | h1
 ·exact h i h1
 ·obtain rfl : i = j - 1 := by omega
  rw [show j - 1 + 1 = j from by omega]
  exact hc
def isSetF (l : List (List UInt8)) : Bool := decide (∀ i, i < l.length - 1 → cmpF (l.getD i []) (l.getD (i + 1) []) < 0)
theorem isSetF_iff (l : List (List UInt8)) : isSetF l = true ↔ SetF l := by
 unfold isSetF
 rw [decide_eq_true_iff, setF_chain]
 constructor
 ·intro h i hi; exact h i (by omega)
 ·intro h i hi; exact h i (by omega)
theorem UpTo.end {l : List (List UInt8)} (h : UpTo l l.length) : isSetF l = true := by
 rw [isSetF_iff, setF_chain]
 exact fun i hi => h i hi
end Go.Proofs.YthihmlojdopmfaaDoor

namespace Go.Proofs.YthihmlojdopmfaaDoor
open Go.RowKit

theorem built_zid : Tryd.prog.built 24 [] = some (idCells idZero) := by kernel_rfl
theorem exec_zid {w : World} {o : Oper} {a : Act} (ho : o.op = .build 24 #[]) : (execOp a.eval o).run Tryd.prog w = .ok (.value (.agg (idCells idZero))) w := by
 refine exec_build _ _ ho _ ?_
 simpa using built_zid
theorem len_idZero : idZero.length = 32 := rfl
theorem zero_any (l : List UInt8) (hl : l.length = 32) (q : Bool) (hq : decide (l = idZero) = q) (w : World) :
  Calls Tryd.prog 58 #[.agg (idCells l)] w fun e w' => e = .returned (.bool q) ∧ Below w.heap.size w w' := by
 have HL := Lib.hid hl
 have HI := Lib.hid (idAt_new w l hl)
 have HQ := Lib.hid hq
 have HB := Lib.hid ((Below.refl w.heap.size w).alloc (Nat.le_refl _) (.cells (idCells l) 24))
 clear hl hq
 go_enter Tryd.func58, Tryd.ntmps58
 go_wp2_with (first
  | ((with_reducible refine atS 3 ?_); go_must (refine wl_load rfl _ rfl _ _ l HL.out rfl HI.out.range ?_))
  | ((with_reducible refine atS 4 ?_); go_must (refine wl_ex rfl (exec_zid rfl) ?_))
  | ((with_reducible refine atS 5 ?_); go_must (refine wl_ex rfl (exec_eqlId _ _ _ rfl l idZero HL.out len_idZero rfl rfl) ?_); rw [HQ.out]))
 go_ret
 exact ⟨rfl, HB.out⟩

theorem name_is (n : List UInt8) (q : Bool) (hq : nameF n = q) (w : World) : Calls Tryd.prog 57 #[.string (strB n)] w fun e w' => e = .returned (.bool q) ∧ Below w.heap.size w w' := by
 have h := name_any (strB n) w
 rw [strB_list, hq] at h
 exact h
def headF (h a : List UInt8) : Bool := if h = [] then !decide (a = idZero) else nameF h && decide (a = idZero)
theorem strB_nil (h : List UInt8) : ((strB h).toList == []) = decide (h = []) := by
 rw [Lib.toList_data, strB_list]
 cases h <;> rfl
theorem head_any (h a : List UInt8) (ha : a.length = 32) (q : Bool) (hq : headF h a = q) (w : World) :
  Calls Tryd.prog 27 #[.string (strB h), .agg (idCells a)] w fun e w' => e = .returned (.bool q) ∧ Below w.heap.size w w' := by
 have HL := Lib.hid ha
 have HI := Lib.hid (idAt_new w a ha)
 have HB := Lib.hid ((Below.refl w.heap.size w).alloc (Nat.le_refl _) (.cells (idCells a) 24))
 obtain ⟨z, hz⟩ : ∃ z, decide (a = idZero) = z := ⟨_, rfl⟩
 obtain ⟨m, hm⟩ : ∃ m, nameF h = m := ⟨_, rfl⟩
 have HZ := Lib.hid (fun W => zero_any a ha z hz W)
 have HN := Lib.hid (fun W => name_is h m hm W)
 unfold headF at hq
 rw [hz, hm] at hq
 obtain ⟨p, hp⟩ : ∃ p, strB h = p := ⟨_, rfl⟩
 by_cases he : h = []
 ·rw [if_pos he] at hq
  have d0 : (p.toList == []) = true := by rw [← hp, strB_nil, decide_eq_true he]
  rw [hp] at HN ⊢
  have HQ := Lib.hid hq
  clear ha hz hm hq hp he
  go_enter Tryd.func27, Tryd.ntmps27
  go_wp2_with (first
   | ((with_reducible refine atS 7 ?_); go_must (refine wl_load rfl _ rfl _ _ a HL.out rfl HI.out.range ?_))
   | (go_at_call 58; go_must (refine (HZ.out _).mono ?_); rintro e w2 ⟨rfl, hb2⟩))
  go_ret
  exact ⟨by rw [← HQ.out]; rfl, Below.trans HB.out (hb2.mono HB.out.size)⟩
 ·rw [if_neg he] at hq
  have d0 : (p.toList == []) = false := by rw [← hp, strB_nil, decide_eq_false he]
  rw [hp] at HN ⊢
  have HQ := Lib.hid hq
  clear ha hz hm hq hp he
  cases m
  ·go_enter Tryd.func27, Tryd.ntmps27
   go_wp2_with (go_at_call 57; go_must (refine (HN.out _).mono ?_); rintro e w2 ⟨rfl, hb2⟩)
   go_ret
   exact ⟨by rw [← HQ.out]; rfl, Below.trans HB.out (hb2.mono HB.out.size)⟩
  ·go_enter Tryd.func27, Tryd.ntmps27
   go_wp2_with (first
    | (go_at_call 57; go_must (refine (HN.out _).mono ?_); rintro e w2 ⟨rfl, hb2⟩; have HI2 := Lib.hid (HI.out.below hb2); have HB2 := Lib.hid (Below.trans HB.out (hb2.mono HB.out.size)); clear hb2)
    | ((with_reducible refine atS 13 ?_); go_must (refine wl_load rfl _ rfl _ _ a HL.out rfl HI2.out.range ?_))
    | (go_at_call 58; go_must (refine (HZ.out _).mono ?_); rintro e w3 ⟨rfl, hb3⟩))
   go_ret
   exact ⟨by rw [← HQ.out]; rfl, Below.trans HB2.out (hb3.mono HB2.out.size)⟩
end Go.Proofs.YthihmlojdopmfaaDoor

namespace Go.Proofs.YthihmlojdopmfaaDoor
open Go.RowKit

def RightN (L : List RName) : Prop := L.length ≤ 64 ∧ (∀ x ∈ L, nameF x.1 = true ∧ x.2 ≠ idZero) ∧ ∀ j, j + 1 < L.length → (gd L j).1 < (gd L (j + 1)).1
def NOk (L : List RName) (i : Nat) : Prop := (∀ j, j < i → nameF (gd L j).1 = true ∧ (gd L j).2 ≠ idZero) ∧ ∀ j, j + 1 < i → (gd L j).1 < (gd L (j + 1)).1
theorem NOk.first {L : List RName} {X : RName} (_ : NOk L 0) (h1 : nameF X.1 = true) (h2 : ¬ X.2 = idZero) (hX : X = gd L 0) : NOk L (0 + 1) := by
 subst hX
 refine ⟨fun j hj => ?_, fun j hj => by omega⟩
 obtain rfl : j = 0 := by omega
 exact ⟨h1, h2⟩
theorem NOk.more {L : List RName} {X : RName} {j : Nat} (h : NOk L (j + 1)) (h1 : nameF X.1 = true) (h2 : ¬ X.2 = idZero) (hX : X = gd L (j + 1)) (hl : (gd L j).1 < X.1) : NOk L (j + 1 + 1) := by
 subst hX
 refine ⟨fun k hk => ?_, fun k hk => ?_⟩
 ·rcases Nat.lt_or_ge k (j + 1) with h3 | h3
  ·exact h.1 k h3
  ·obtain rfl : k = j + 1 := by omega
   exact ⟨h1, h2⟩
 ·rcases Nat.lt_or_ge (k + 1) (j + 1) with h3 | h3
  ·exact h.2 k h3
  ·obtain rfl : k = j := by omega
   exact hl
theorem NOk.all {L : List RName} (h : NOk L L.length) (hl : L.length ≤ 64) : RightN L := by
 refine ⟨hl, fun x hx => ?_, h.2⟩
 obtain ⟨j, hj, rfl⟩ := List.mem_iff_getElem.1 hx
 have := h.1 j hj
 have e : gd L j = L[j] := by unfold gd; simp [hj]
 rwa [e] at this
theorem RightN.step {L : List RName} {X : RName} {j n : Nat} (h : RightN L) (hi : j + 1 < n) (hX : X = gd L (j + 1)) (hn : L.length = n) : (gd L j).1 < X.1 := by
 subst hX
 exact h.2.2 j (by omega)
theorem rn_name {w : World} {b o n c j : Nat} {L : List RName} (h : AtG rnK w (some ⟨b, o, none⟩) n c L) (hj : j < n) : w.cell? ⟨b, o + j * 33, none⟩ = some (.string (strB (gd L j).1)) := by
 have := h.at_ j hj 0 _ (show (rnK.cells (gd L j))[0]? = some (.string (strB (gd L j).1)) from rfl)
 exact this
theorem rn_id {w : World} {b o n c j : Nat} {L : List RName} (h : AtG rnK w (some ⟨b, o, none⟩) n c L) (hj : j < n) : w.rangeAt b (o + j * 33 + 1) ((gd L j).2.map B) := fun i v hv => by
 have := h.at_ j hj (i + 1) v (by show (rnL (gd L j))[i + 1]? = some v; unfold rnL; rw [List.getElem?_cons_succ]; exact hv)
 have e : rnK.k = 33 := rfl
 rw [e] at this
 rw [show o + j * 33 + 1 + i = o + j * 33 + (i + 1) from by omega]
 exact this
theorem size33 {X : RName} (h : X.2.length = 32) : (Tryd.prog.info? NEf).map (·.size) = some (rnL X).length := by rw [rnL_len h]; kernel_rfl
theorem exec_loadRn {w : World} {o : Oper} {a : Act} (x : Operand) (ho : o.op = .load NEf x) (b off : Nat) (X : RName) (hX : X.2.length = 32) (hx : a.eval x = .pointer (some ⟨b, off, none⟩)) (hc : w.rangeAt b off (rnL X)) :
  (execOp a.eval o).run Tryd.prog w = .ok (.value (.agg (rnL X).toArray)) w := by
 have hr := run_loadVar_mid (P := Tryd.prog) w b off NEf (rnL X) _ hc Tryd.underlying55 rfl (size33 hX)
 unfold execOp
 simp only [ho, hx, Instr.loadAt, Instr.sureAddr, Sem.run_bind, Sem.run_pure, Result.andThen_ok, hr]
theorem store_new {E : TypeId} {vs : List Value} (hk : (Tryd.prog.info? E).map (·.size) = some vs.length) (h1 : ∀ v ∈ vs, v.oneCell' = true) {w : World} {cs : Array Value} (hcs : cs.size = vs.length) {ops : Array Oper} {rest : List Oper} {o : Oper} {a : Act} {Q : Exit → Act → World → Prop} (hgd : o.guard = none) (x y : Operand) (ho : o.op = .store E x y)
  (hx : a.eval x = .pointer (some ⟨w.heap.size, 0, none⟩)) (hy : a.eval y = .agg vs.toArray)
  (h : ∀ W, RowAt W w.heap.size E vs → Below w.heap.size w W → W.heap.size = w.heap.size + 1 → wpList Tryd.prog ops Q rest (a.put o.dst undef) W) : wpList Tryd.prog ops Q (o :: rest) a (w.alloc (.cells cs E)) := by
 have hg := heap_alloc_new w (.cells cs E)
 have hs : vs.toArray.size = vs.length := by simp
 refine wpList_store_row hgd E x y ho w.heap.size vs.toArray hx hy E cs hg (by rw [hs]; exact hk) (by rw [hs, hcs]) ?_ (h _ (setRow_heap _ _ cs vs.toArray _ _ hg) ?_ ?_)
 ·rw [Array.all_eq_true_iff_forall_mem]
  intro v hv
  exact h1 v (by simpa using hv)
 ·refine ⟨rfl, rfl, rfl, by simp [World.setRow], fun k hk => ?_⟩
  unfold World.setRow
  rw [Array.getElem?_modify, if_neg (by omega)]
  exact heap_alloc_old (h := hk) ..
 ·simp [World.setRow]
theorem row_id {w : World} {g : Nat} {E : TypeId} {X : RName} (h : RowAt w g E (rnL X)) : w.rangeAt g 1 (X.2.map B) := by
 have := h.range (l := [.string (strB X.1)]) (m := X.2.map B) (r := []) (by simp [rnL])
 exact this
theorem less_is (a b : List UInt8) : Op.bytesLess (strB a).toList (strB b).toList = decide (a < b) := by
 rw [bytesLess_eq, ByteArray.toList_eq, ByteArray.toList_eq, strB_list, strB_list]

set_option maxRecDepth 100000 in
set_option maxHeartbeats 4000000 in
theorem names_any (a : Option Addr) (n c : Nat) (L : List RName) (w : World) (h : AtG rnK w a n c L) (q : Bool) (hq : q = true ↔ RightN L) :
  Calls Tryd.prog 26 #[.slice a n c] w fun e w' => e = .returned (.bool q) ∧ Below w.heap.size w w' := by
 have HLN := Lib.hid h.1
 have HN := Lib.hid h
 have HQ := Lib.hid hq
 have HF := Lib.hid (show ¬ RightN L → q = false from fun h => by
  cases q
  ·rfl
  ·exact absurd (HQ.out.1 rfl) h)
 have hnM : (n : Int) ≤ 9223372036854775807 := by have := h.2.1; have := h.2.2.1; omega
 clear hq
 by_cases h64 : (64 : Int) < (n : Int)
 ·have d64 : decide (64 < n) = true := decide_eq_true (by omega)
  have HQ2 := Lib.hid (HF.out (fun h2 => by have := h2.1; have := HLN.out; omega))
  clear h
  go_enter Tryd.func26, Tryd.ntmps26
  go_wp2
  go_ret
  exact ⟨boolR HQ2.out.symm, Below.refl _ _⟩
 have hnI : (n : Int) ≤ 64 := by omega
 have HNI := Lib.hid hnI
 have d64 : decide (64 < n) = false := decide_eq_false (by omega)
 clear h h64
 go_enter Tryd.func26, Tryd.ntmps26
 go_wp2
 go_loopg [10] n (fun g v10 W => ∃ i : Nat, v10 = .int .i64 i ∧ g + i = n ∧ Hid (Below w.heap.size w W) ∧ Hid (NOk L i))
 case atStart => exact ⟨0, rfl, rfl, Lib.hid (Below.refl _ _), Lib.hid ⟨fun j hj => absurd hj (Nat.not_lt_zero _), fun j hj => absurd hj (Nat.not_lt_zero _)⟩⟩
 case round =>
  obtain ⟨i, rfl, hg, HB, HOK⟩ := hrel
  have HG := Lib.hid hg
  have hi0 : (0 : Int) ≤ (i : Int) := by omega
  have hiI : (i : Int) ≤ (n : Int) := by omega
  by_cases hi : (i : Int) < (n : Int)
  ·have hin : i < n := by omega
   have HI := Lib.hid hin
   obtain ⟨b, o, rfl⟩ := HN.out.some_ (by omega)
   obtain ⟨X, hX⟩ : ∃ X, X = gd L i := ⟨_, rfl⟩
   have HXI : Hid (X.2.length = 32) := Lib.hid (hX ▸ HN.out.ok hin)
   have HXE := Lib.hid hX
   have HXM : Hid (X ∈ L) := Lib.hid (by rw [hX]; exact gd_mem (by rw [HLN.out]; exact hin))
   have HXR : Hid (wr.rangeAt b (o + i * 33) (rnL X)) := Lib.hid (hX ▸ (HN.out.below HB.out).at_ i hin)
   obtain ⟨p, hp⟩ : ∃ p, strB X.1 = p := ⟨_, rfl⟩
   have HPE := Lib.hid hp
   obtain ⟨m, hm⟩ : ∃ m, nameF X.1 = m := ⟨_, rfl⟩
   obtain ⟨z, hz⟩ : ∃ z, decide (X.2 = idZero) = z := ⟨_, rfl⟩
   have HNM := Lib.hid (fun W => hp ▸ name_is X.1 m hm W)
   have HZE := Lib.hid (fun W => zero_any X.2 HXI.out z hz W)
   have HME := Lib.hid hm
   have HZI := Lib.hid hz
   clear hg hX hp hm hz
   go_wp2_with (first
    | ((with_reducible refine atS 14 ?_); go_must (refine wl_ex rfl (exec_loadRn _ rfl _ _ X HXI.out rfl HXR.out) ?_))
    | ((with_reducible refine atT 4 ?_); go_must (refine store_new (vs := rnL X) (size33 HXI.out) (rnL_one X) (by rw [rnL_len HXI.out]; rfl) rfl _ _ rfl rfl rfl ?_); intro W4 hk4 hb4 hs4; have HBW := thn HB hb4; have HK4 := Lib.hid hk4; generalize wr.heap.size = g4 at hk4 hs4 HK4 ⊢; clear hk4 hb4 hs4))
   have HCP := Lib.hid (fun W (hW : Below W4.heap.size W4 W) => (show W.cell? ⟨g4, 0, none⟩ = some (.string p) from by rw [← HPE.out]; exact (HK4.out.below hW).cell 0 rfl))
   have HCI := Lib.hid (fun W (hW : Below W4.heap.size W4 W) => row_id (HK4.out.below hW))
   have HBd : Hid (Below W4.heap.size W4 W4.drew) := Lib.hid (Below.refl _ _).drew
   have hi00 := hi0
   refine wp_region_held_drew (S := fun W => Below W4.heap.size W4 W) (by kernel_rfl) HBd.out (fun hHeld => ?_)
   refine tk 0 (mo 15 (.fieldAddr 55 (.tmp 4) 0)) (.pointer (some ⟨g4, 0, none⟩)) rfl ?_
   refine tk 1 (mo 16 (.load 9 (.tmp 15))) (.string p) rfl ?_ (Or.inl ⟨by rfl, fun W hW => by have hcell := HCP.out W hW; go_simp⟩)
   refine rdH [2] ?_
   refine AllReadyH.cons (o := ⟨some 17, .call { callee := .value (.func 57), args := #[(.tmp 16)], argTypes := #[9] }, _, _, _, _⟩) rfl (fun K hK => ?_) AllReadyH.nil
   go_simp
   go_wp2_with (go_at_call 57; go_must (refine (HNM.out _).mono ?_); rintro e w6 ⟨rfl, hb6⟩; have HX1 := thn HBd hb6; clear hb6)
   refine hK.out _ _ HX1.out (fun hHeld => ?_)
   clear hK K
   cases m
   ·refine wpAnyH_take (i := 3) (oi := ⟨some 18, .unOp .not 4 (.tmp 17), _, _, _, _⟩) (v := (.bool true)) rfl (by kernel_rfl) (by kernel_rfl) (by kernel_rfl) (fun _ _ _ h => h) (Or.inl ⟨by rfl, fun W hW => by go_simp⟩) (by assumption) ?_
    simp only [Act.put, List.setIfInBounds_toArray, List.set_cons_zero, List.set_cons_succ]
    refine tk 4 (mo 19 (.move (.tmp 18))) (.bool true) rfl ?_
    refine tk 5 (mo 20 (.fieldAddr 55 (.tmp 4) 1)) undef rfl ?_ (Or.inr ⟨by rfl, rfl⟩)
    refine tk 6 (mo 21 (.load 24 (.tmp 20))) undef rfl ?_ (Or.inr ⟨by rfl, rfl⟩)
    refine tk 7 (mo 22 (.call { callee := .value (.func 58), args := #[(.tmp 21)], argTypes := #[24] })) undef rfl ?_ (Or.inr ⟨by rfl, rfl⟩)
    refine tk 8 (mo 23 (.pick (.tmp 19) (.const (.bool true)) (.tmp 22))) (.bool true) rfl ?_
    refine tk 9 (mo 24 (.move (.tmp 23))) (.bool true) rfl ?_
    refine tk 10 (mo 25 (.move (.tmp 3))) undef rfl ?_ (Or.inr ⟨by rfl, rfl⟩)
    refine tk 11 (mo 26 (.binOp .gtr 3 (.tmp 25) (.const (.int .i64 0)) 3)) undef rfl ?_ (Or.inr ⟨by rfl, rfl⟩)
    refine tk 12 (mo 27 (.move (.tmp 26))) undef rfl ?_ (Or.inr ⟨by rfl, rfl⟩)
    refine tk 13 (mo 28 (.move (.tmp 0))) undef rfl ?_ (Or.inr ⟨by rfl, rfl⟩)
    refine tk 14 (mo 29 (.move (.tmp 3))) undef rfl ?_ (Or.inr ⟨by rfl, rfl⟩)
    refine tk 15 (mo 30 (.binOp .sub 3 (.tmp 29) (.const (.int .i64 1)) 3)) undef rfl ?_ (Or.inr ⟨by rfl, rfl⟩)
    refine tk 16 (mo 31 (.indexAddr 33 (.tmp 28) (.tmp 30))) undef rfl ?_ (Or.inr ⟨by rfl, rfl⟩)
    refine tk 17 (mo 32 (.fieldAddr 55 (.tmp 31) 0)) undef rfl ?_ (Or.inr ⟨by rfl, rfl⟩)
    refine tk 18 (mo 33 (.load 9 (.tmp 32))) undef rfl ?_ (Or.inr ⟨by rfl, rfl⟩)
    refine tk 19 (mo 34 (.fieldAddr 55 (.tmp 4) 0)) undef rfl ?_ (Or.inr ⟨by rfl, rfl⟩)
    refine tk 20 (mo 35 (.load 9 (.tmp 34))) undef rfl ?_ (Or.inr ⟨by rfl, rfl⟩)
    refine tk 21 (mo 36 (.binOp .geq 9 (.tmp 33) (.tmp 35) 9)) undef rfl ?_ (Or.inr ⟨by rfl, rfl⟩)
    refine tk 22 (mo 37 (.pick (.tmp 27) (.tmp 36) (.const (.bool false)))) undef rfl ?_ (Or.inr ⟨by rfl, rfl⟩)
    refine tk 23 (mo 38 (.pick (.tmp 24) (.const (.bool true)) (.tmp 37))) (.bool true) rfl ?_
    refine wpAnyH_done (by kernel_rfl) ?_ _
    have HZ := Lib.hid (Below.trans HBW.out (HX1.out.mono HBW.out.size))
    have HQ := Lib.hid (HF.out (fun h => by have := (h.2.1 X HXM.out).1; rw [HME.out] at this; cases this))
    go_wp2_with fail
    go_ret
    exact ⟨boolR HQ.out.symm, HZ.out⟩
   ·refine wpAnyH_take (i := 3) (oi := ⟨some 18, .unOp .not 4 (.tmp 17), _, _, _, _⟩) (v := (.bool false)) rfl (by kernel_rfl) (by kernel_rfl) (by kernel_rfl) (fun _ _ _ h => h) (Or.inl ⟨by rfl, fun W hW => by go_simp⟩) (by assumption) ?_
    simp only [Act.put, List.setIfInBounds_toArray, List.set_cons_zero, List.set_cons_succ]
    refine tk 4 (mo 19 (.move (.tmp 18))) (.bool false) rfl ?_
    refine tk 5 (mo 20 (.fieldAddr 55 (.tmp 4) 1)) (.pointer (some ⟨g4, 1, none⟩)) rfl ?_
    refine tk 6 (mo 21 (.load 24 (.tmp 20))) (.agg (idCells X.2)) rfl ?_ (Or.inl ⟨by rfl, fun W hW => exec_loadId _ rfl _ _ X.2 HXI.out rfl (HCI.out W hW)⟩)
    refine rdH [7] ?_
    refine AllReadyH.cons (o := ⟨some 22, .call { callee := .value (.func 58), args := #[(.tmp 21)], argTypes := #[24] }, _, _, _, _⟩) rfl (fun K hK => ?_) AllReadyH.nil
    go_simp
    go_wp2_with (go_at_call 58; go_must (refine (HZE.out _).mono ?_); rintro e w7 ⟨rfl, hb7⟩; have HX2 := thn HX1 hb7; clear hb7)
    refine hK.out _ _ HX2.out (fun hHeld => ?_)
    clear hK K
    cases z
    ·refine wpAnyH_take (i := 8) (oi := ⟨some 23, .pick (.tmp 19) (.const (.bool true)) (.tmp 22), _, _, _, _⟩) (v := (.bool false)) rfl (by kernel_rfl) (by kernel_rfl) (by kernel_rfl) (fun _ _ _ h => h) (Or.inl ⟨by rfl, fun W hW => by go_simp⟩) (by assumption) ?_
     simp only [Act.put, List.setIfInBounds_toArray, List.set_cons_zero, List.set_cons_succ]
     refine tk 9 (mo 24 (.move (.tmp 23))) (.bool false) rfl ?_
     refine tk 10 (mo 25 (.move (.tmp 3))) (.int .i64 (i : Nat)) rfl ?_
     by_cases hi1 : i = 0
     ·subst hi1
      refine tk 11 (mo 26 (.binOp .gtr 3 (.tmp 25) (.const (.int .i64 0)) 3)) (.bool false) rfl ?_
      refine tk 12 (mo 27 (.move (.tmp 26))) (.bool false) rfl ?_
      refine tk 13 (mo 28 (.move (.tmp 0))) undef rfl ?_ (Or.inr ⟨by rfl, rfl⟩)
      refine tk 14 (mo 29 (.move (.tmp 3))) undef rfl ?_ (Or.inr ⟨by rfl, rfl⟩)
      refine tk 15 (mo 30 (.binOp .sub 3 (.tmp 29) (.const (.int .i64 1)) 3)) undef rfl ?_ (Or.inr ⟨by rfl, rfl⟩)
      refine tk 16 (mo 31 (.indexAddr 33 (.tmp 28) (.tmp 30))) undef rfl ?_ (Or.inr ⟨by rfl, rfl⟩)
      refine tk 17 (mo 32 (.fieldAddr 55 (.tmp 31) 0)) undef rfl ?_ (Or.inr ⟨by rfl, rfl⟩)
      refine tk 18 (mo 33 (.load 9 (.tmp 32))) undef rfl ?_ (Or.inr ⟨by rfl, rfl⟩)
      refine tk 19 (mo 34 (.fieldAddr 55 (.tmp 4) 0)) undef rfl ?_ (Or.inr ⟨by rfl, rfl⟩)
      refine tk 20 (mo 35 (.load 9 (.tmp 34))) undef rfl ?_ (Or.inr ⟨by rfl, rfl⟩)
      refine tk 21 (mo 36 (.binOp .geq 9 (.tmp 33) (.tmp 35) 9)) undef rfl ?_ (Or.inr ⟨by rfl, rfl⟩)
      refine tk 22 (mo 37 (.pick (.tmp 27) (.tmp 36) (.const (.bool false)))) (.bool false) rfl ?_
      refine tk 23 (mo 38 (.pick (.tmp 24) (.const (.bool true)) (.tmp 37))) (.bool false) rfl ?_
      refine wpAnyH_done (by kernel_rfl) ?_ _
      go_wp2_with fail
      go_roundg (n - (0 + 1))
      case measure => have := HG.out; have := HI.out; omega
      case rel => exact ⟨0 + 1, by go_num, by have := HI.out; omega, Lib.hid (HBW.out.trans (HX2.out.mono HBW.out.size)), Lib.hid (HOK.out.first HME.out (of_decide_eq_false HZI.out) HXE.out)⟩
     ·obtain ⟨j, rfl⟩ : ∃ j, i = j + 1 := ⟨i - 1, by omega⟩
      have hjn : j < n := by have := HI.out; omega
      have hj0 : (0 : Int) ≤ (j : Int) := by omega
      have hjnI : (j : Int) < (n : Int) := by omega
      have hj1 : (j : Int) + 1 - 1 = (j : Int) := by omega
      have hjp : (0 : Int) < (j : Int) + 1 := by omega
      have hjW : IntKind.i64.wrap (j : Int) = (j : Int) := IntWalk.i64_in _ (by omega)
      obtain ⟨y, hy⟩ : ∃ y, strB (gd L j).1 = y := ⟨_, rfl⟩
      have HCY := Lib.hid (fun W (hW : Below W4.heap.size W4 W) => (hy ▸ rn_name ((HN.out.below HBW.out).below hW) hjn : W.cell? ⟨b, o + j * 33, none⟩ = some (.string y)))
      obtain ⟨l, hl⟩ : ∃ l, decide ((gd L j).1 < X.1) = l := ⟨_, rfl⟩
      have HLS : Hid (Op.bytesLess y.toList p.toList = l) := Lib.hid (by rw [← hy, ← HPE.out, less_is, hl])
      clear hi1 hy hjn
      refine tk 11 (mo 26 (.binOp .gtr 3 (.tmp 25) (.const (.int .i64 0)) 3)) (.bool true) rfl ?_
      refine tk 12 (mo 27 (.move (.tmp 26))) (.bool true) rfl ?_
      refine tk 13 (mo 28 (.move (.tmp 0))) (.slice (some ⟨b, o, none⟩) n c) rfl ?_
      refine tk 14 (mo 29 (.move (.tmp 3))) (.int .i64 ((j + 1 : Nat) : Int)) rfl ?_
      refine tk 15 (mo 30 (.binOp .sub 3 (.tmp 29) (.const (.int .i64 1)) 3)) (.int .i64 (j : Nat)) rfl ?_
      refine tk 16 (mo 31 (.indexAddr 33 (.tmp 28) (.tmp 30))) (.pointer (some ⟨b, o + j * 33, none⟩)) rfl ?_
      refine tk 17 (mo 32 (.fieldAddr 55 (.tmp 31) 0)) (.pointer (some ⟨b, o + j * 33, none⟩)) rfl ?_
      refine tk 18 (mo 33 (.load 9 (.tmp 32))) (.string y) rfl ?_ (Or.inl ⟨by rfl, fun W hW => by have hcell := HCY.out W hW; go_simp⟩)
      refine tk 19 (mo 34 (.fieldAddr 55 (.tmp 4) 0)) (.pointer (some ⟨g4, 0, none⟩)) rfl ?_
      refine tk 20 (mo 35 (.load 9 (.tmp 34))) (.string p) rfl ?_ (Or.inl ⟨by rfl, fun W hW => by have hcell := HCP.out W hW; go_simp⟩)
      refine tk 21 (mo 36 (.binOp .geq 9 (.tmp 33) (.tmp 35) 9)) (.bool (!l)) rfl ?_ (Or.inl ⟨by rfl, fun W hW => by have hl := HLS.out; go_simp⟩)
      refine tk 22 (mo 37 (.pick (.tmp 27) (.tmp 36) (.const (.bool false)))) (.bool (!l)) rfl ?_
      refine tk 23 (mo 38 (.pick (.tmp 24) (.const (.bool true)) (.tmp 37))) (.bool (!l)) rfl ?_
      cases l
      ·have HLL := Lib.hid (of_decide_eq_false hl)
       clear hl
       refine wpAnyH_done (by kernel_rfl) ?_ _
       have HZ := Lib.hid (Below.trans HBW.out (HX2.out.mono HBW.out.size))
       have HQ := Lib.hid (HF.out (fun h => HLL.out (h.step HI.out HXE.out HLN.out)))
       go_wp2_with fail
       go_ret
       exact ⟨boolR HQ.out.symm, HZ.out⟩
      ·have HLL := Lib.hid (of_decide_eq_true hl)
       clear hl
       refine wpAnyH_done (by kernel_rfl) ?_ _
       go_wp2_with fail
       go_roundg (n - (j + 1 + 1))
       case measure => have := HG.out; have := HI.out; omega
       case rel => exact ⟨j + 1 + 1, by go_num, by have := HI.out; omega, Lib.hid (HBW.out.trans (HX2.out.mono HBW.out.size)), Lib.hid (HOK.out.more HME.out (of_decide_eq_false HZI.out) HXE.out HLL.out)⟩
    ·refine wpAnyH_take (i := 8) (oi := ⟨some 23, .pick (.tmp 19) (.const (.bool true)) (.tmp 22), _, _, _, _⟩) (v := (.bool true)) rfl (by kernel_rfl) (by kernel_rfl) (by kernel_rfl) (fun _ _ _ h => h) (Or.inl ⟨by rfl, fun W hW => by go_simp⟩) (by assumption) ?_
     simp only [Act.put, List.setIfInBounds_toArray, List.set_cons_zero, List.set_cons_succ]
     refine tk 9 (mo 24 (.move (.tmp 23))) (.bool true) rfl ?_
     refine tk 10 (mo 25 (.move (.tmp 3))) undef rfl ?_ (Or.inr ⟨by rfl, rfl⟩)
     refine tk 11 (mo 26 (.binOp .gtr 3 (.tmp 25) (.const (.int .i64 0)) 3)) undef rfl ?_ (Or.inr ⟨by rfl, rfl⟩)
     refine tk 12 (mo 27 (.move (.tmp 26))) undef rfl ?_ (Or.inr ⟨by rfl, rfl⟩)
     refine tk 13 (mo 28 (.move (.tmp 0))) undef rfl ?_ (Or.inr ⟨by rfl, rfl⟩)
     refine tk 14 (mo 29 (.move (.tmp 3))) undef rfl ?_ (Or.inr ⟨by rfl, rfl⟩)
     refine tk 15 (mo 30 (.binOp .sub 3 (.tmp 29) (.const (.int .i64 1)) 3)) undef rfl ?_ (Or.inr ⟨by rfl, rfl⟩)
     refine tk 16 (mo 31 (.indexAddr 33 (.tmp 28) (.tmp 30))) undef rfl ?_ (Or.inr ⟨by rfl, rfl⟩)
     refine tk 17 (mo 32 (.fieldAddr 55 (.tmp 31) 0)) undef rfl ?_ (Or.inr ⟨by rfl, rfl⟩)
     refine tk 18 (mo 33 (.load 9 (.tmp 32))) undef rfl ?_ (Or.inr ⟨by rfl, rfl⟩)
     refine tk 19 (mo 34 (.fieldAddr 55 (.tmp 4) 0)) undef rfl ?_ (Or.inr ⟨by rfl, rfl⟩)
     refine tk 20 (mo 35 (.load 9 (.tmp 34))) undef rfl ?_ (Or.inr ⟨by rfl, rfl⟩)
     refine tk 21 (mo 36 (.binOp .geq 9 (.tmp 33) (.tmp 35) 9)) undef rfl ?_ (Or.inr ⟨by rfl, rfl⟩)
     refine tk 22 (mo 37 (.pick (.tmp 27) (.tmp 36) (.const (.bool false)))) undef rfl ?_ (Or.inr ⟨by rfl, rfl⟩)
     refine tk 23 (mo 38 (.pick (.tmp 24) (.const (.bool true)) (.tmp 37))) (.bool true) rfl ?_
     refine wpAnyH_done (by kernel_rfl) ?_ _
     have HZ := Lib.hid (Below.trans HBW.out (HX2.out.mono HBW.out.size))
     have HQ := Lib.hid (HF.out (fun h => by have := (h.2.1 X HXM.out).2; exact this (of_decide_eq_true HZI.out)))
     go_wp2_with fail
     go_ret
     exact ⟨boolR HQ.out.symm, HZ.out⟩
  ·have hin : n = i := by omega
   have HZ : Hid (q = true) := Lib.hid (HQ.out.2 (NOk.all (by rw [HLN.out, hin]; exact HOK.out) (by have := HLN.out; have := HNI.out; omega)))
   clear hg
   go_wp2
   go_ret
   exact ⟨boolR HZ.out.symm, HB.out⟩
end Go.Proofs.YthihmlojdopmfaaDoor
