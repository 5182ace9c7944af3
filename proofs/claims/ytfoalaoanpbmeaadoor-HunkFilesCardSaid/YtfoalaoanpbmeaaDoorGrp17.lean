/-
  Merged: HkBackM, HkFits.
-/
import Derived.Test.YtfoalaoanpbmeaaDoorGrp16
namespace Go.Proofs.YtfoalaoanpbmeaaDoor
open Go.RowKit Go.Lib My

/-- One line met: where, and what is put. -/
def appC (x : List Ln) (c : Ln) (at_ : Nat) (o : List UInt8) : Option (Nat × List UInt8) := match c with
  | [] => none
  | u :: l => if u = 43 then some (at_, o ++ l) else if at_ < x.length ∧ x.getD at_ [] = l then (if u = 32 then some (at_ + 1, o ++ l) else if u = 45 then some (at_ + 1, o) else none) else none
def appL (x : List Ln) : List Ln → Nat → List UInt8 → Option (Nat × List UInt8)
  | [], at_, o => some (at_, o)
  | c :: r, at_, o => (appC x c at_ o).bind fun z => appL x r z.1 z.2
def midF (x : List Ln) (i j : Nat) : List UInt8 := ((x.take j).drop i).flatten
def runH (x : List Ln) : List HkV → Nat → List UInt8 → Option (Nat × List UInt8)
  | [], at_, o => some (at_, o)
  | y :: H, at_, o => if at_ ≤ y.f ∧ y.f ≤ x.length then (appL x y.ls y.f (o ++ midF x at_ y.f)).bind fun z => runH x H z.1 z.2 else none
theorem appL_snoc (x : List Ln) (c : Ln) : ∀ (l : List Ln) (at_ : Nat) (o : List UInt8), appL x (l ++ [c]) at_ o = (appL x l at_ o).bind fun z => appC x c z.1 z.2
  | [], at_, o => by
    show (appC x c at_ o).bind (fun z => appL x [] z.1 z.2) = appC x c at_ o
    cases appC x c at_ o <;> rfl
  | d :: l, at_, o => by
    show (appC x d at_ o).bind (fun z => appL x (l ++ [c]) z.1 z.2) = ((appC x d at_ o).bind fun z => appL x l z.1 z.2).bind fun z => appC x c z.1 z.2
    cases appC x d at_ o with
    | none => rfl
    | some z => exact appL_snoc x c l z.1 z.2
theorem runH_line (x : List Ln) (f t : Nat) (ls : List Ln) (c : Ln) : ∀ (H : List HkV) (at_ : Nat) (o : List UInt8), runH x (H ++ [⟨f, t, ls ++ [c]⟩]) at_ o = (runH x (H ++ [⟨f, t, ls⟩]) at_ o).bind fun z => appC x c z.1 z.2
  | [], at_, o => by
    show (if at_ ≤ f ∧ f ≤ x.length then (appL x (ls ++ [c]) f (o ++ midF x at_ f)).bind (fun z => some (z.1, z.2)) else none) = (if at_ ≤ f ∧ f ≤ x.length then (appL x ls f (o ++ midF x at_ f)).bind (fun z => some (z.1, z.2)) else none).bind fun z => appC x c z.1 z.2
    split
    · rw [appL_snoc]
      cases appL x ls f (o ++ midF x at_ f) with
      | none => rfl
      | some z => show (appC x c z.1 z.2).bind (fun z => some (z.1, z.2)) = appC x c z.1 z.2; cases appC x c z.1 z.2 <;> rfl
    · rfl
  | y :: H, at_, o => by
    show (if at_ ≤ y.f ∧ y.f ≤ x.length then (appL x y.ls y.f (o ++ midF x at_ y.f)).bind (fun z => runH x (H ++ [⟨f, t, ls ++ [c]⟩]) z.1 z.2) else none) = (if at_ ≤ y.f ∧ y.f ≤ x.length then (appL x y.ls y.f (o ++ midF x at_ y.f)).bind (fun z => runH x (H ++ [⟨f, t, ls⟩]) z.1 z.2) else none).bind fun z => appC x c z.1 z.2
    split
    · cases appL x y.ls y.f (o ++ midF x at_ y.f) with
      | none => rfl
      | some z => exact runH_line x f t ls c H z.1 z.2
    · rfl
theorem runH_new (x : List Ln) (f t : Nat) (c : Ln) : ∀ (H : List HkV) (at_ : Nat) (o : List UInt8) (a2 : Nat) (o2 : List UInt8), runH x H at_ o = some (a2, o2) → a2 ≤ f → f ≤ x.length → runH x (H ++ [⟨f, t, [c]⟩]) at_ o = appC x c f (o2 ++ midF x a2 f)
  | [], at_, o, a2, o2, h, h1, h2 => by
    obtain ⟨rfl, rfl⟩ : at_ = a2 ∧ o = o2 := by have := Option.some.inj h; exact ⟨congrArg (·.1) this, congrArg (·.2) this⟩
    show (if at_ ≤ f ∧ f ≤ x.length then (appL x [c] f (o ++ midF x at_ f)).bind (fun z => some (z.1, z.2)) else none) = _
    rw [if_pos ⟨h1, h2⟩]
    show ((appC x c f (o ++ midF x at_ f)).bind (fun z => some (z.1, z.2))).bind (fun z => some (z.1, z.2)) = _
    cases appC x c f (o ++ midF x at_ f) <;> rfl
  | y :: H, at_, o, a2, o2, h, h1, h2 => by
    have h' : (if at_ ≤ y.f ∧ y.f ≤ x.length then (appL x y.ls y.f (o ++ midF x at_ y.f)).bind (fun z => runH x H z.1 z.2) else none) = some (a2, o2) := h
    show (if at_ ≤ y.f ∧ y.f ≤ x.length then (appL x y.ls y.f (o ++ midF x at_ y.f)).bind (fun z => runH x (H ++ [⟨f, t, [c]⟩]) z.1 z.2) else none) = _
    by_cases hc : at_ ≤ y.f ∧ y.f ≤ x.length
    · rw [if_pos hc] at h' ⊢
      cases hz : appL x y.ls y.f (o ++ midF x at_ y.f) with
      | none => rw [hz] at h'; cases h'
      | some z => rw [hz] at h'; exact runH_new x f t c H z.1 z.2 a2 o2 h' h1 h2
    · rw [if_neg hc] at h'; cases h'
theorem mid_self (x : List Ln) (i : Nat) : midF x i i = [] := by unfold midF; rw [List.drop_eq_nil_of_le (by rw [List.length_take]; omega)]; rfl
theorem mid_snoc {x : List Ln} {i j : Nat} (hi : i ≤ j) (hj : j < x.length) : midF x i (j + 1) = midF x i j ++ x.getD j [] := by
  unfold midF
  rw [take_snoc x j [] hj, List.drop_append_of_le_length (by rw [List.length_take]; omega), List.flatten_append]; simp
/-- The state of the run. -/
def BkS (A B : List Ln) (i j : Nat) (op : Bool) (H : List HkV) : Prop :=
  ∃ a2 o2, runH A H 0 [] = some (a2, o2) ∧ a2 ≤ i ∧ o2 ++ midF A a2 i = (B.take j).flatten ∧ (op = true → a2 = i ∧ H ≠ [])
theorem BkS.put {A B : List Ln} {i j i' : Nat} {op : Bool} {H : List HkV} {c : Ln} {o' : List UInt8} (h : BkS A B i j op H) (hi : i ≤ A.length) (hc : appC A c i ((B.take j).flatten) = some (i', o')) : runH A (putF H op i j c) 0 [] = some (i', o') := by
  obtain ⟨a2, o2, h1, h2, h3, h4⟩ := h
  cases op with
  | true =>
    obtain ⟨rfl, hne⟩ := h4 rfl
    rw [mid_self, List.append_nil] at h3
    obtain ⟨H0, ⟨f, t, ls⟩, rfl⟩ : ∃ H0 y, H = H0 ++ [y] := ⟨H.dropLast, H.getLast hne, (List.dropLast_concat_getLast hne).symm⟩
    have e1 : putF (H0 ++ [⟨f, t, ls⟩]) true a2 j c = H0 ++ [⟨f, t, ls ++ [c]⟩] := by unfold putF; rw [if_pos rfl]; simp
    rw [e1, runH_line, h1]
    show appC A c a2 o2 = _
    rw [h3]; exact hc
  | false =>
    have e1 : putF H false i j c = H ++ [⟨i, j, [c]⟩] := by unfold putF; rw [if_neg (by decide)]
    rw [e1, runH_new A i j c H 0 [] a2 o2 h1 h2 hi, h3]; exact hc
theorem put_ne (H : List HkV) (op : Bool) (i j : Nat) (c : Ln) : putF H op i j c ≠ [] := by
  unfold putF; split <;> simp
theorem fit_nil {a b : List Ln} (h : Fit [] a b) : a = [] ∧ b = [] := by cases h; exact ⟨rfl, rfl⟩
theorem go_back (ms : List Int) (A B : List Ln) : ∀ (r : List Int) (e i j : Nat) (op : Bool) (H : List HkV), ms.drop e = r → i ≤ A.length → j ≤ B.length → Fit r (A.drop i) (B.drop j) → BkS A B i j op H → ∃ a2 o2, runH A (hkGo ms A B r e i j op H) 0 [] = some (a2, o2) ∧ a2 ≤ A.length ∧ o2 ++ midF A a2 A.length = B.flatten
  | [], e, i, j, op, H, hr, hi, hj, hf, h => by
    obtain ⟨a2, o2, h1, h2, h3, _⟩ := h
    obtain ⟨g1, g2⟩ := fit_nil hf
    have e1 : A.length ≤ i := List.drop_eq_nil_iff.1 g1
    have e2 : B.length ≤ j := List.drop_eq_nil_iff.1 g2
    obtain rfl : i = A.length := by omega
    rw [List.take_of_length_le e2] at h3
    exact ⟨a2, o2, h1, h2, h3⟩
  | m :: r, e, i, j, op, H, hr, hi, hj, hf, h => by
    obtain ⟨d1, d2, d3⟩ := drop_step (0 : Int) hr
    rw [go_cons]
    have hm := fit_moves hf m (List.mem_cons_self ..)
    by_cases hn : nearF ms e = true
    · rw [if_pos hn]
      by_cases m1 : m = 1
      · subst m1
        obtain ⟨x, a2, b2, f1, f2, f3⟩ := fit_one hf
        obtain ⟨u1, u2, u3⟩ := drop_step ([] : Ln) f1
        obtain ⟨v1, v2, v3⟩ := drop_step ([] : Ln) f2
        rw [if_pos rfl]
        refine go_back ms A B r (e + 1) (i + 1) (j + 1) true _ d1 u2 v2 (by rw [u1, v1]; exact f3) ?_
        have h5 := h.put (c := 32 :: A.getD i []) (i' := i + 1) (o' := (B.take j).flatten ++ A.getD i []) hi (by unfold appC; dsimp only; rw [if_neg (by decide), if_pos ⟨u2, rfl⟩, if_pos rfl])
        refine ⟨_, _, h5, Nat.le_refl _, ?_, fun _ => ⟨rfl, put_ne _ _ _ _ _⟩⟩
        rw [mid_self, List.append_nil, take_snoc B j [] v2, List.flatten_append, u3, v3]; simp
      · rw [if_neg m1]
        by_cases m2 : m = 2
        · subst m2
          obtain ⟨x, a2, f1, f3⟩ := fit_two hf
          obtain ⟨u1, u2, u3⟩ := drop_step ([] : Ln) f1
          rw [if_pos rfl]
          refine go_back ms A B r (e + 1) (i + 1) j true _ d1 u2 hj (by rw [u1]; exact f3) ?_
          have h5 := h.put (c := 45 :: A.getD i []) (i' := i + 1) (o' := (B.take j).flatten) hi (by unfold appC; dsimp only; rw [if_neg (by decide), if_pos ⟨u2, rfl⟩, if_neg (by decide), if_pos rfl])
          exact ⟨_, _, h5, Nat.le_refl _, by rw [mid_self, List.append_nil], fun _ => ⟨rfl, put_ne _ _ _ _ _⟩⟩
        · obtain rfl : m = 3 := by rcases hm with h6 | h6 | h6; exact absurd h6 m1; exact absurd h6 m2; exact h6
          obtain ⟨y, b2, f2, f3⟩ := fit_three hf
          obtain ⟨v1, v2, v3⟩ := drop_step ([] : Ln) f2
          rw [if_neg m2]
          refine go_back ms A B r (e + 1) i (j + 1) true _ d1 hi v2 (by rw [v1]; exact f3) ?_
          have h5 := h.put (c := 43 :: B.getD j []) (i' := i) (o' := (B.take j).flatten ++ B.getD j []) hi (by unfold appC; dsimp only; rw [if_pos rfl])
          refine ⟨_, _, h5, Nat.le_refl _, ?_, fun _ => ⟨rfl, put_ne _ _ _ _ _⟩⟩
          rw [mid_self, List.append_nil, take_snoc B j [] v2, List.flatten_append]; simp
    · rw [if_neg hn]
      have hn' : nearF ms e = false := by simpa using hn
      have hm1 : m = 1 := by rw [← d3]; exact near_self d2 hn'
      subst hm1
      obtain ⟨x, a2, b2, f1, f2, f3⟩ := fit_one hf
      obtain ⟨u1, u2, u3⟩ := drop_step ([] : Ln) f1
      obtain ⟨v1, v2, v3⟩ := drop_step ([] : Ln) f2
      refine go_back ms A B r (e + 1) (i + 1) (j + 1) false H d1 u2 v2 (by rw [u1, v1]; exact f3) ?_
      obtain ⟨p, o, h1, h2, h3, _⟩ := h
      refine ⟨p, o, h1, by omega, ?_, fun h => by cases h⟩
      rw [mid_snoc h2 u2, ← List.append_assoc, h3, take_snoc B j [] v2, List.flatten_append, u3, v3]; simp
theorem hunks_back (A B : List Ln) : ∃ a2 o2, runH A (hunksF A B) 0 [] = some (a2, o2) ∧ a2 ≤ A.length ∧ o2 ++ midF A a2 A.length = B.flatten :=
  go_back (scrL A B) A B _ 0 0 0 false [] rfl (Nat.zero_le _) (Nat.zero_le _) (fit_scr A B) ⟨0, [], rfl, Nat.le_refl _, by rw [mid_self]; rfl, fun h => by cases h⟩
theorem scr_same (f : Ln → Int) : ∀ a : List Ln, ∀ m ∈ scr (a.map f) (a.map f), m = 1
  | [], m, hm => by rw [List.map_nil, scr_nil] at hm; cases hm
  | x :: a, m, hm => by
    rw [List.map_cons, scr_nn, if_pos rfl] at hm
    rcases List.mem_cons.1 hm with h | h
    · exact h
    · exact scr_same f a m h
theorem near_ones {ms : List Int} (h : ∀ m ∈ ms, m = 1) (e : Nat) : nearF ms e = false := by
  cases hn : nearF ms e with
  | false => rfl
  | true =>
    obtain ⟨q, q1, _, _, q4⟩ := near_ex hn
    exact absurd (h _ (getD_mem q1)) q4
theorem go_none (ms : List Int) (A B : List Ln) (h : ∀ m ∈ ms, m = 1) : ∀ (r : List Int) (e i j : Nat), hkGo ms A B r e i j false [] = []
  | [], _, _, _ => rfl
  | m :: r, e, i, j => by rw [go_cons, if_neg (by rw [near_ones h e]; decide)]; exact go_none ms A B h r _ _ _
theorem hunks_same (A : List Ln) : hunksF A A = [] := by
  unfold hunksF
  refine go_none _ A A ?_ _ _ _ _
  obtain ⟨H, h1, h2, h3, h4⟩ := nums_two A A
  unfold scrL
  rw [h3, h4]
  exact scr_same _ A
theorem hunks_nil {A B : List Ln} (h : hunksF A B = []) : A.flatten = B.flatten := by
  obtain ⟨a2, o2, h1, h2, h3⟩ := hunks_back A B
  rw [h] at h1
  obtain ⟨rfl, rfl⟩ : 0 = a2 ∧ [] = o2 := by have := Option.some.inj h1; exact ⟨congrArg (·.1) this, congrArg (·.2) this⟩
  rw [← h3]; unfold midF; simp
#print axioms hunks_back
#print axioms hunks_same
end Go.Proofs.YtfoalaoanpbmeaaDoor

namespace Go.Proofs.YtfoalaoanpbmeaaDoor
open Go.RowKit Go.Lib

theorem builderAt_below {T e : TypeId} {B b : Nat} {p : Value} {bs : List Value} {w w' : World} (h : BuilderAt T e B b p bs w) (hb : Below w.heap.size w w') : BuilderAt T e B b p bs w' := by
  have hlt := h.lt
  obtain ⟨h1, v, h2, h3, h4⟩ := h
  exact ⟨h1, v, (hb.block b hlt).trans h2, rows_below h3 hb, h4⟩
theorem bld_below {b : Nat} {l : List UInt8} {w w' : World} (h : Bld b l w) (hb : Below w.heap.size w w') : Bld b l w' := h.elim (fun x => .inl (builderAt_below x hb)) (fun x => .inr (builderAt_below x hb))
theorem appC_len {x : List Ln} {c : Ln} {at_ : Nat} {o : List UInt8} {z : Nat × List UInt8} (h : appC x c at_ o = some z) : o.length ≤ z.2.length := by
  unfold appC at h
  split at h
  · cases h
  · split at h
    · cases h; simp
    · split at h
      · split at h
        · cases h; simp
        · split at h
          · cases h; simp
          · cases h
      · cases h
theorem appL_len {x : List Ln} : ∀ {l : List Ln} {at_ : Nat} {o : List UInt8} {z : Nat × List UInt8}, appL x l at_ o = some z → o.length ≤ z.2.length
  | [], _, _, _, h => by cases h; exact Nat.le_refl _
  | c :: r, at_, o, z, h => by
    have h' : (appC x c at_ o).bind (fun y => appL x r y.1 y.2) = some z := h
    cases hc : appC x c at_ o with
    | none => rw [hc] at h'; cases h'
    | some y => rw [hc] at h'; exact Nat.le_trans (appC_len hc) (appL_len h')
theorem runH_len {x : List Ln} : ∀ {H : List HkV} {at_ : Nat} {o : List UInt8} {z : Nat × List UInt8}, runH x H at_ o = some z → o.length ≤ z.2.length
  | [], _, _, _, h => by cases h; exact Nat.le_refl _
  | y :: H, at_, o, z, h => by
    have h' : (if at_ ≤ y.f ∧ y.f ≤ x.length then (appL x y.ls y.f (o ++ midF x at_ y.f)).bind (fun z => runH x H z.1 z.2) else none) = some z := h
    split at h'
    · cases hc : appL x y.ls y.f (o ++ midF x at_ y.f) with
      | none => rw [hc] at h'; cases h'
      | some u =>
        rw [hc] at h'
        have h1 := appL_len hc
        have h2 := runH_len h'
        rw [List.length_append] at h1; omega
    · cases h'
theorem b_extH (s : ByteArray) (p q : Nat) : (s.extract p q).data.toList = (s.data.toList.drop p).take (q - p) := by
  simp [ByteArray.data_extract, Array.toList_extract, List.extract]
theorem ext_tail (u : UInt8) (l : Ln) : (strB (u :: l)).extract 1 (strB (u :: l)).size = strB l := by
  have h : ((strB (u :: l)).extract 1 (strB (u :: l)).size).data.toList = l := by
    rw [b_extH, strB_list, strB_size]; simp
  have h2 := strB_of ((strB (u :: l)).extract 1 (strB (u :: l)).size)
  rw [h] at h2; exact h2.symm
set_option maxRecDepth 100000 in
set_option maxHeartbeats 1000000 in
theorem fits_yes (u : UInt8) (l : Ln) (a : Option Addr) (n c : Nat) (w : World) (h : u = 43 ∨ ((u = 32 ∨ u = 45) ∧ 0 < n ∧ ∃ g off, a = some ⟨g, off, none⟩ ∧ w.cell? ⟨g, off, none⟩ = some (.string (strB l)))) :
    Calls Tryd.prog 36 #[.string (strB (u :: l)), .slice a n c] w fun e w' => e = .returned (.bool true) ∧ ∃ m, w' = w.drewN m := by
  have hsz : 0 < (strB (u :: l)).size := by rw [strB_size]; simp
  have hq0 : ((strB (u :: l)).toList == []) = false := by rw [Lib.toList_data]; simp [strB]
  have hq1 : ((strB (u :: l)).toList == (⟨#[]⟩ : ByteArray).toList) = false := by rw [Lib.toList_data, Lib.toList_data]; simp [strB]
  have hh : headB (u :: l) = u := rfl
  have hszI : (1 : Int) ≤ ((strB (u :: l)).size : Int) := by omega
  have hext := ext_tail u l
  by_cases h43 : u = 43
  · obtain ⟨z1, z2⟩ := byte_is hsz 43 43 rfl true (by rw [hh, h43]; rfl)
    clear h h43 hh hext
    go_enter Tryd.func36, Tryd.ntmps36
    go_wp2
    go_ret
    exact ⟨rfl, 0, rfl⟩
  · obtain ⟨h1, hn, g, off, rfl, hc⟩ := h.resolve_left h43
    obtain ⟨z1, z2⟩ := byte_is hsz 43 43 rfl false (by rw [hh, beq_eq_false_iff_ne]; exact h43)
    have hn0 : (0 : Int) < (n : Int) := by omega
    have hself : ((strB l).toList == (strB l).toList) = true := beq_self_eq_true _
    by_cases h32 : u = 32
    · obtain ⟨z3, z4⟩ := byte_is hsz 32 32 rfl true (by rw [hh, h32]; rfl)
      clear h h1 h43 h32 hh
      go_enter Tryd.func36, Tryd.ntmps36
      go_wp2
      go_quiet (fail)
      go_wp2
      go_ret
      exact ⟨rfl, nq, rfl⟩
    · have h45 : u = 45 := h1.resolve_left h32
      obtain ⟨z3, z4⟩ := byte_is hsz 32 32 rfl false (by rw [hh, beq_eq_false_iff_ne]; exact h32)
      obtain ⟨z5, z6⟩ := byte_is hsz 45 45 rfl true (by rw [hh, h45]; rfl)
      clear h h1 h43 h32 h45 hh
      go_enter Tryd.func36, Tryd.ntmps36
      go_wp2
      go_quiet (fail)
      go_wp2
      go_ret
      exact ⟨rfl, nq, rfl⟩
#print axioms fits_yes
end Go.Proofs.YtfoalaoanpbmeaaDoor
