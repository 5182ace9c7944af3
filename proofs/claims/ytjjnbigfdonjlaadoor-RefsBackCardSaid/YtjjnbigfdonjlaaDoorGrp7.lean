/-
  Merged: EachNamed, Name, OrdRefCmp, IdFns, RfZero.
-/
import Derived.Test.YtjjnbigfdonjlaaDoorGrp6
import Derived.Test.YtjjnbigfdonjlaaDoorGrp3
import Derived.Deep.LoopGhost
import Derived.IntWalk
namespace Go.Proofs.YtjjnbigfdonjlaaDoor
open Go.RowKit

theorem decR_big {l : List UInt8} {c : UInt8} (hl : l.head? = some c) (hc : 128 ≤ c.toNat) : 128 ≤ (decR l).1 := by
  cases hd : decF l with
  | none => rw [decR_none hd]; decide
  | some q =>
    obtain ⟨n, k⟩ := q
    rw [decR_some hd]
    obtain ⟨hm, hk, hkl, ht⟩ := decF_some hd
    show 128 ≤ n
    apply Classical.byContradiction
    intro h
    have he : encF n = [UInt8.ofNat n] := by unfold encF; rw [if_pos (by omega)]
    rw [he] at hk ht
    simp at hk
    subst hk
    cases l with
    | nil => cases hl
    | cons x r =>
      simp at hl ht
      subst hl
      rw [ht, ofNat_toNat n (by omega)] at hc
      omega
theorem take_all {q : UInt8 → Bool} {l : List UInt8} {p : Nat} (hp : p < l.length) : (l.take (p + 1)).all q = ((l.take p).all q && q (l.getD p 0)) := by
  rw [List.take_succ_eq_append_getElem hp, List.all_append]; simp [hp]
theorem all_no {q : UInt8 → Bool} {l : List UInt8} {p : Nat} (hp : p < l.length) (h : q (l.getD p 0) = false) : l.all q = false := by
  rw [← List.take_append_drop (p + 1) l, List.all_append, take_all hp, h]; simp

def nmB (c : UInt8) : Bool := nameC c.toNat

set_option maxRecDepth 100000 in
set_option maxHeartbeats 400000 in
theorem each_named (s : ByteArray) (w : World) :
    Calls Tryd.prog 84 #[.string s, .func (.func 83) #[] #[]] w fun e w' => e = .returned (.bool (s.data.toList.all nmB)) ∧ Below w.heap.size w w' := by
  have HA := Lib.hid (show (s.data.toList.take 0).all nmB = true from rfl)
  go_enter Tryd.func84, Tryd.ntmps84
  go_wp2
  go_loopg [] s.size (fun g W => ∃ (p : Nat), Below w.heap.size w W ∧ W.heap[w.heap.size]? = some (.stringIter s p) ∧ g + p = s.size ∧ Hid ((s.data.toList.take p).all nmB = true))
  case atStart => exact ⟨0, (Below.refl _ _).alloc (Nat.le_refl _) _, World.iter_heap w s 0, rfl, HA⟩
  case round =>
    obtain ⟨p, hbw, hit, hg, hall⟩ := hrel
    have HG := Lib.hid hg
    by_cases hp : p < s.size
    · have hpl : p < s.data.toList.length := by rw [b_len]; exact hp
      have hat := b_at s p hp
      by_cases h128 : (s[p]'hp).toNat < 128
      · have hnx := fun ty => Lib.run_next_ascii_at (P := Tryd.prog) wr w.heap.size s p ty hit hp h128
        have HIT := Lib.hid (Lib.iterAt_heap wr w.heap.size s p (p + 1) hit)
        have HB2 := Lib.hid (Lib.below_iterAt hbw (k := w.heap.size) (Nat.le_refl _) s (p + 1))
        obtain ⟨n, hn⟩ : ∃ n, n = (s[p]'hp).toNat := ⟨_, rfl⟩
        rw [← hn] at hnx
        obtain ⟨f, hf⟩ : ∃ f, nameC n = f := ⟨_, rfl⟩
        have HC := Lib.hid (fun w => named_is n f w hf)
        have HF := Lib.hid (show nmB (s.data.toList.getD p 0) = f by unfold nmB; rw [← hat, ← hn, hf])
        have HPL := Lib.hid hpl
        clear hg hit hp hf hn hat h128 hpl
        rcases f
        · have HE := Lib.hid (all_no HPL.out HF.out)
          go_wp2_with (go_at_call 83; (with_reducible refine (HC.out _).mono ?_); rintro e w1 ⟨rfl, rfl⟩)
          go_ret
          exact ⟨retBl HE.out.symm, HB2.out⟩
        · have HE := Lib.hid (show (s.data.toList.take (p + 1)).all nmB = true by rw [take_all HPL.out, hall.out, HF.out]; rfl)
          go_wp2_with (go_at_call 83; (with_reducible refine (HC.out _).mono ?_); rintro e w1 ⟨rfl, rfl⟩)
          go_roundg (gk - 1)
          case measure => have := HG.out; have := HPL.out; rw [b_len] at this; omega
          case rel => exact ⟨p + 1, HB2.out, HIT.out, by have := HG.out; have := HPL.out; rw [b_len] at this; omega, HE⟩
      · have hnx0 := fun ty => Lib.run_next_any_at (P := Tryd.prog) wr w.heap.size s p ty hit hp
        rw [decode_drop s p hp] at hnx0
        have hbig : 128 ≤ (decR (s.data.toList.drop p)).1 := decR_big (c := s[p]'hp) (by rw [List.head?_drop, List.getElem?_eq_getElem hpl]; rfl) (by omega)
        obtain ⟨n, hn⟩ : ∃ n, n = (decR (s.data.toList.drop p)).1 := ⟨_, rfl⟩
        obtain ⟨k, hk⟩ : ∃ k, k = (decR (s.data.toList.drop p)).2 := ⟨_, rfl⟩
        rw [← hn, ← hk] at hnx0
        rw [← hn] at hbig
        have hnx := hnx0
        have HB2 := Lib.hid (Lib.below_iterAt hbw (k := w.heap.size) (Nat.le_refl _) s (p + k))
        have HC := Lib.hid (fun w => named_is n false w (by rw [Bool.eq_false_iff]; intro h; have := (nameC_iff n).1 h; omega))
        have HF := Lib.hid (show nmB (s.data.toList.getD p 0) = false by unfold nmB; rw [← hat, Bool.eq_false_iff]; intro h; have := (nameC_iff _).1 h; omega)
        have HE := Lib.hid (all_no hpl HF.out)
        clear hg hit hp hn hk hat h128 hpl hnx0 hbig
        go_wp2_with (go_at_call 83; (with_reducible refine (HC.out _).mono ?_); rintro e w1 ⟨rfl, rfl⟩)
        go_ret
        exact ⟨retBl HE.out.symm, HB2.out⟩
    · have hnx := fun ty => Lib.run_next_end_at (P := Tryd.prog) wr w.heap.size s p ty hit hp
      have HE := Lib.hid (show s.data.toList.all nmB = true by
        have := hall.out
        rw [List.take_of_length_le (by rw [b_len]; omega)] at this
        exact this)
      clear hg hp hit
      go_wp2
      go_ret
      exact ⟨retBl HE.out.symm, hbw⟩
#print axioms each_named
end Go.Proofs.YtjjnbigfdonjlaaDoor

namespace Go.Proofs.YtjjnbigfdonjlaaDoor
open Go.RowKit

theorem each_named_is (s : ByteArray) (c : Bool) (w : World) (h : s.data.toList.all nmB = c) :
    Calls Tryd.prog 84 #[.string s, .func (.func 83) #[] #[]] w fun e w' => e = .returned (.bool c) ∧ Below w.heap.size w w' := by subst h; exact each_named s w

theorem nameF_eq (s : List UInt8) : nameF s = (decide (1 ≤ s.length) && decide (s.length ≤ 32) && s.all nmB && s.getD 0 0 != 46 && s.getD 0 0 != 45 && s != [72, 69, 65, 68]) := rfl

set_option maxRecDepth 100000 in
set_option maxHeartbeats 1000000 in
theorem name_any (s : ByteArray) (w : World) :
    Calls Tryd.prog 58 #[.string s] w fun e w' => e = .returned (.bool (nameF s.data.toList)) ∧ Below w.heap.size w w' := by
  obtain ⟨r, hr⟩ : ∃ r, r = nameF s.data.toList := ⟨_, rfl⟩
  rw [← hr]
  rw [nameF_eq, b_len] at hr
  have HR := Lib.hid hr
  clear hr
  obtain ⟨c1, h1⟩ : ∃ c, (decide ((1 : Int) ≤ (s.size : Int)) && decide ((s.size : Int) ≤ 32)) = c := ⟨_, rfl⟩
  have H1 := Lib.hid (fun w => sized_is s 1 32 c1 w h1)
  obtain ⟨c2, h2⟩ : ∃ c, s.data.toList.all nmB = c := ⟨_, rfl⟩
  have H2 := Lib.hid (fun w => each_named_is s c2 w h2)
  have E1 := Lib.hid h1
  have E2 := Lib.hid h2
  rcases c1
  · clear h1 h2
    go_enter Tryd.func58, Tryd.ntmps58
    go_wp2_with (go_at_call 71; (with_reducible refine (H1.out _).mono ?_); rintro e w1 ⟨rfl, rfl⟩)
    go_ret
    refine ⟨retBl ?_, Below.refl _ _⟩
    symm
    rw [HR.out]
    have := E1.out
    simp only [Bool.and_eq_false_iff, decide_eq_false_iff_not] at this
    rcases this with h | h
    · rw [decide_eq_false (p := 1 ≤ s.size) (by omega)]; rfl
    · rw [decide_eq_false (p := s.size ≤ 32) (by omega)]; simp
  · simp only [Bool.and_eq_true, decide_eq_true_eq] at h1
    have h0 : 0 < s.size := by omega
    have h0I : (0 : Int) < (s.size : Int) := by omega
    have E1 := Lib.hid h1
    rcases c2
    · clear h1 h2
      go_enter Tryd.func58, Tryd.ntmps58
      go_wp2_with (first
        | (go_at_call 71; (with_reducible refine (H1.out _).mono ?_); rintro e w1 ⟨rfl, rfl⟩)
        | (go_at_call 84; (with_reducible refine (H2.out _).mono ?_); rintro e w1 ⟨rfl, hb⟩))
      go_ret
      refine ⟨retBl ?_, hb⟩
      rw [HR.out, E2.out]; simp
    · have hat := b_at s 0 h0
      have HH := Lib.hid (show r = (s.data.toList.getD 0 0 != 46 && s.data.toList.getD 0 0 != 45 && s.data.toList != [72, 69, 65, 68]) by
        rw [HR.out, E2.out, decide_eq_true (p := 1 ≤ s.size) (by omega), decide_eq_true (p := s.size ≤ 32) (by omega)]; rfl)
      by_cases g1 : ((s[0]'h0).toNat : Int) = 46
      · have HX := Lib.hid (show r = false by
          rw [HH.out, ← hat, show (s[0]'h0) = 46 from by apply UInt8.toNat_inj.1; show (s[0]'h0).toNat = 46; omega]; rfl)
        clear h1 h2 hat
        go_enter Tryd.func58, Tryd.ntmps58
        go_wp2_with (first
          | (go_at_call 71; (with_reducible refine (H1.out _).mono ?_); rintro e w1 ⟨rfl, rfl⟩)
          | (go_at_call 84; (with_reducible refine (H2.out _).mono ?_); rintro e w1 ⟨rfl, hb⟩))
        go_ret
        exact ⟨retBl HX.out.symm, hb⟩
      · have n1 : ((s[0]'h0) != 46) = true := by rw [bne_iff_ne]; intro e; apply g1; rw [e]; rfl
        by_cases g2 : ((s[0]'h0).toNat : Int) = 45
        · have HX := Lib.hid (show r = false by
            rw [HH.out, ← hat, show (s[0]'h0) = 45 from by apply UInt8.toNat_inj.1; show (s[0]'h0).toNat = 45; omega]; rfl)
          have g3 : (((s[0]'h0).toNat : Int) != 46) = true := by rw [bne_iff_ne]; exact g1
          clear h1 h2 hat
          go_enter Tryd.func58, Tryd.ntmps58
          go_wp2_with (first
            | (go_at_call 71; (with_reducible refine (H1.out _).mono ?_); rintro e w1 ⟨rfl, rfl⟩)
            | (go_at_call 84; (with_reducible refine (H2.out _).mono ?_); rintro e w1 ⟨rfl, hb⟩))
          go_ret
          exact ⟨retBl HX.out.symm, hb⟩
        · have n2 : ((s[0]'h0) != 45) = true := by rw [bne_iff_ne]; intro e; apply g2; rw [e]; rfl
          have g3 : (((s[0]'h0).toNat : Int) != 46) = true := by rw [bne_iff_ne]; exact g1
          have g4 : (((s[0]'h0).toNat : Int) != 45) = true := by rw [bne_iff_ne]; exact g2
          have HX := Lib.hid (show r = !(s.toList == [72, 69, 65, 68]) by
            rw [HH.out, ← hat, n1, n2, Lib.toList_data]; rfl)
          clear h1 h2 hat
          go_enter Tryd.func58, Tryd.ntmps58
          go_wp2_with (first
            | (go_at_call 71; (with_reducible refine (H1.out _).mono ?_); rintro e w1 ⟨rfl, rfl⟩)
            | (go_at_call 84; (with_reducible refine (H2.out _).mono ?_); rintro e w1 ⟨rfl, hb⟩))
          go_ret
          exact ⟨retBl (by rw [HX.out]), hb⟩
#print axioms name_any
end Go.Proofs.YtjjnbigfdonjlaaDoor

namespace Go.Proofs.YtjjnbigfdonjlaaDoor
open Go.RowKit

theorem two_boxes (w : World) (l k : List UInt8) (hl : l.length = 32) (hk : k.length = 32) :
    IdAt ((w.alloc (.cells (idCells l) 24)).alloc (.cells (idCells k) 24)) w.heap.size l ∧
    IdAt ((w.alloc (.cells (idCells l) 24)).alloc (.cells (idCells k) 24)) (w.heap.size + 1) k :=
  ⟨⟨hl, by rw [heap_alloc_old (h := by simp), heap_alloc_new]⟩,
   ⟨hk, by have := heap_alloc_new (w.alloc (.cells (idCells l) 24)) (.cells (idCells k) 24); simpa using this⟩⟩

/-- As far as the two are alike. -/
def SameTo (l k : List UInt8) (j : Nat) : Prop := l.take j = k.take j

theorem SameTo.lt {l k : List UInt8} {j : Nat} (h : SameTo l k j) (hl : j < l.length) (hk : j < k.length) (hc : (l.getD j 0).toNat < (k.getD j 0).toNat) : cmpF l k = -1 := by
  rw [cmpF_at j l k h hl hk, if_pos hc]
theorem SameTo.gt {l k : List UInt8} {j : Nat} (h : SameTo l k j) (hl : j < l.length) (hk : j < k.length) (hc : (k.getD j 0).toNat < (l.getD j 0).toNat) : cmpF l k = 1 := by
  rw [cmpF_at j l k h hl hk, if_neg (by omega), if_pos hc]
theorem SameTo.next {l k : List UInt8} {j : Nat} (h : SameTo l k j) (hl : j < l.length) (hk : j < k.length) (h1 : ¬ (l.getD j 0).toNat < (k.getD j 0).toNat) (h2 : ¬ (k.getD j 0).toNat < (l.getD j 0).toNat) : SameTo l k (j + 1) := by
  unfold SameTo at h ⊢
  rw [List.take_succ_eq_append_getElem hl, List.take_succ_eq_append_getElem hk, h]
  have e : (l.getD j 0) = (k.getD j 0) := UInt8.toNat_inj.1 (by omega)
  simp [hl, hk] at e
  rw [e]
theorem SameTo.all {l k : List UInt8} (h : SameTo l k 32) (hl : l.length = 32) (hk : k.length = 32) : cmpF l k = 0 := by
  unfold SameTo at h
  rw [List.take_of_length_le (by omega), List.take_of_length_le (by omega)] at h
  rw [h, cmpF_self]

end Go.Proofs.YtjjnbigfdonjlaaDoor

namespace Go.Proofs.YtjjnbigfdonjlaaDoor
open Go.RowKit

theorem ownI_empty (w : World) : OwnI (w.alloc (.cells #[] 24)) w.heap.size (.slice (some ⟨w.heap.size, 0, none⟩) 0 0) [] :=
  ⟨World.ownsRow_lit w #[] 0 (Nat.le_refl _) (by unfold maxLen; omega) rfl, (fun _ h => by cases h)⟩

/-- As far as it is not there. -/
def NotTo (l : List (List UInt8)) (x : List UInt8) (j : Nat) : Prop := ∀ i, i < j → l.getD i [] ≠ x
theorem NotTo.next {l : List (List UInt8)} {x : List UInt8} {j : Nat} (h : NotTo l x j) (hn : l.getD j [] ≠ x) : NotTo l x (j + 1) := fun i hi => by
  rcases Nat.lt_or_ge i j with h1 | h1
  · exact h i h1
  · obtain rfl : i = j := by omega
    exact hn
theorem NotTo.end {l : List (List UInt8)} {x : List UInt8} (h : NotTo l x l.length) : x ∉ l := fun hx => by
  obtain ⟨i, hi, rfl⟩ := List.getElem_of_mem hx
  exact h i hi (by simp [hi])
theorem mem_of_getD {l : List (List UInt8)} {x : List UInt8} {j : Nat} (hj : j < l.length) (h : l.getD j [] = x) : x ∈ l := by
  rw [← h]
  have : l.getD j [] = l[j] := by simp [hj]
  rw [this]
  exact List.getElem_mem hj

theorem idAt_new (w : World) (x : List UInt8) (hx : x.length = 32) : IdAt (w.alloc (.cells (idCells x) 24)) w.heap.size x := ⟨hx, heap_alloc_new w _⟩

/-! ### IsSet -/
/-- As far as each stands ahead of the next. -/
def UpTo (l : List (List UInt8)) (j : Nat) : Prop := ∀ i, i + 1 < j → cmpF (l.getD i []) (l.getD (i + 1) []) < 0
theorem UpTo.next {l : List (List UInt8)} {j : Nat} (h : UpTo l j) (hc : cmpF (l.getD (j - 1) []) (l.getD j []) < 0) : UpTo l (j + 1) := fun i hi => by
  rcases Nat.lt_or_ge (i + 1) j with h1 | h1
  · exact h i h1
  · obtain rfl : i = j - 1 := by omega
    rw [show j - 1 + 1 = j from by omega]
    exact hc
/-- Is it a set? -/
def isSetF (l : List (List UInt8)) : Bool := decide (∀ i, i < l.length - 1 → cmpF (l.getD i []) (l.getD (i + 1) []) < 0)
theorem isSetF_iff (l : List (List UInt8)) : isSetF l = true ↔ SetF l := by
  unfold isSetF
  rw [decide_eq_true_iff, setF_chain]
  constructor
  · intro h i hi; exact h i (by omega)
  · intro h i hi; exact h i (by omega)
theorem UpTo.end {l : List (List UInt8)} (h : UpTo l l.length) : isSetF l = true := by
  rw [isSetF_iff, setF_chain]
  exact fun i hi => h i hi
theorem isSetF_no {l : List (List UInt8)} {j : Nat} (h1 : 1 ≤ j) (hj : j < l.length) (hc : 0 ≤ cmpF (l.getD (j - 1) []) (l.getD j [])) : isSetF l = false := by
  rw [Bool.eq_false_iff]
  intro h
  rw [isSetF_iff, setF_chain] at h
  have := h (j - 1) (by omega)
  rw [show j - 1 + 1 = j from by omega] at this
  omega

end Go.Proofs.YtjjnbigfdonjlaaDoor

namespace Go.Proofs.YtjjnbigfdonjlaaDoor
open Go.RowKit

theorem built_zid : Tryd.prog.built 24 [] = some (idCells idZero) := by kernel_rfl
theorem exec_zid {w : World} {o : Oper} {a : Act} (ho : o.op = .build 24 #[]) : (execOp a.eval o).run Tryd.prog w = .ok (.value (.agg (idCells idZero))) w := by
  refine exec_build _ _ ho _ ?_
  simpa using built_zid
theorem len_idZero : idZero.length = 32 := rfl
theorem zero_any (l : List UInt8) (hl : l.length = 32) (q : Bool) (hq : decide (l = idZero) = q) (w : World) :
    Calls Tryd.prog 59 #[.agg (idCells l)] w fun e w' => e = .returned (.bool q) ∧ Below w.heap.size w w' := by
  have HL := Lib.hid hl
  have HI := Lib.hid (idAt_new w l hl)
  have HQ := Lib.hid hq
  have HB := Lib.hid ((Below.refl w.heap.size w).alloc (Nat.le_refl _) (.cells (idCells l) 24))
  clear hl hq
  go_enter Tryd.func59, Tryd.ntmps59
  go_wp2_with (first
    | ((with_reducible show wpList _ _ _ (⟨some 3, _, _, _, _, _⟩ :: _) _ _); go_must (refine wl_load rfl _ rfl _ _ l HL.out rfl HI.out.range ?_))
    | ((with_reducible show wpList _ _ _ (⟨some 4, _, _, _, _, _⟩ :: _) _ _); go_must (refine wl_ex rfl (exec_zid rfl) ?_))
    | ((with_reducible show wpList _ _ _ (⟨some 5, _, _, _, _, _⟩ :: _) _ _); go_must (refine wl_ex rfl (exec_eqlId _ _ _ rfl l idZero HL.out len_idZero rfl rfl) ?_); rw [HQ.out]))
  go_ret
  exact ⟨rfl, HB.out⟩

theorem name_is (n : List UInt8) (q : Bool) (hq : nameF n = q) (w : World) : Calls Tryd.prog 58 #[.string (strB n)] w fun e w' => e = .returned (.bool q) ∧ Below w.heap.size w w' := by
  have h := name_any (strB n) w
  rw [strB_list, hq] at h
  exact h
/-- May a head be? -/
def headF (h a : List UInt8) : Bool := if h = [] then !decide (a = idZero) else nameF h && decide (a = idZero)
theorem strB_nil (h : List UInt8) : ((strB h).toList == []) = decide (h = []) := by
  rw [Lib.toList_data, strB_list]
  cases h <;> rfl
theorem head_any (h a : List UInt8) (ha : a.length = 32) (q : Bool) (hq : headF h a = q) (w : World) :
    Calls Tryd.prog 28 #[.string (strB h), .agg (idCells a)] w fun e w' => e = .returned (.bool q) ∧ Below w.heap.size w w' := by
  have HL := Lib.hid ha
  have HI := Lib.hid (idAt_new w a ha)
  have HB := Lib.hid ((Below.refl w.heap.size w).alloc (Nat.le_refl _) (.cells (idCells a) 24))
  obtain ⟨z, hz⟩ : ∃ z, decide (a = idZero) = z := ⟨_, rfl⟩
  obtain ⟨m, hm⟩ : ∃ m, nameF h = m := ⟨_, rfl⟩
  have HZ := Lib.hid (fun W => zero_any a ha z hz W)
  have HN := Lib.hid (fun W => name_is h m hm W)
  unfold headF at hq
  rw [hz, hm] at hq
  obtain ⟨p, hp⟩ : ∃ p, strB h = p := ⟨_, rfl⟩
  by_cases he : h = []
  · rw [if_pos he] at hq
    have d0 : (p.toList == []) = true := by rw [← hp, strB_nil, decide_eq_true he]
    rw [hp] at HN ⊢
    have HQ := Lib.hid hq
    clear ha hz hm hq hp he
    go_enter Tryd.func28, Tryd.ntmps28
    go_wp2_with (first
      | ((with_reducible show wpList _ _ _ (⟨some 7, _, _, _, _, _⟩ :: _) _ _); go_must (refine wl_load rfl _ rfl _ _ a HL.out rfl HI.out.range ?_))
      | (go_at_call 59; go_must (refine (HZ.out _).mono ?_); rintro e w2 ⟨rfl, hb2⟩))
    go_ret
    exact ⟨by rw [← HQ.out]; rfl, Below.trans HB.out (hb2.mono HB.out.size)⟩
  · rw [if_neg he] at hq
    have d0 : (p.toList == []) = false := by rw [← hp, strB_nil, decide_eq_false he]
    rw [hp] at HN ⊢
    have HQ := Lib.hid hq
    clear ha hz hm hq hp he
    cases m
    · go_enter Tryd.func28, Tryd.ntmps28
      go_wp2_with (go_at_call 58; go_must (refine (HN.out _).mono ?_); rintro e w2 ⟨rfl, hb2⟩)
      go_ret
      exact ⟨by rw [← HQ.out]; rfl, Below.trans HB.out (hb2.mono HB.out.size)⟩
    · go_enter Tryd.func28, Tryd.ntmps28
      go_wp2_with (first
        | (go_at_call 58; go_must (refine (HN.out _).mono ?_); rintro e w2 ⟨rfl, hb2⟩; have HI2 := Lib.hid (HI.out.below hb2); have HB2 := Lib.hid (Below.trans HB.out (hb2.mono HB.out.size)); clear hb2)
        | ((with_reducible show wpList _ _ _ (⟨some 13, _, _, _, _, _⟩ :: _) _ _); go_must (refine wl_load rfl _ rfl _ _ a HL.out rfl HI2.out.range ?_))
        | (go_at_call 59; go_must (refine (HZ.out _).mono ?_); rintro e w3 ⟨rfl, hb3⟩))
      go_ret
      exact ⟨by rw [← HQ.out]; rfl, Below.trans HB2.out (hb3.mono HB2.out.size)⟩
#print axioms head_any
end Go.Proofs.YtjjnbigfdonjlaaDoor
