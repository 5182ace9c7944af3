/-
  Plainly: hunks stand apart; none begins or ends with more than three lines that are kept.
-/
import Derived.Test.YtfoalaoanpbmeaaDoorGrp15
namespace Go.Proofs.YtfoalaoanpbmeaaDoor
open Go.RowKit Go.Lib

def headB (x : Ln) : UInt8 := x.getD 0 0
def signB (m : Int) : UInt8 := if m = 1 then 32 else if m = 2 then 45 else 43
/-- What is told of a hunk's lines so far: how many of the one text's, how many kept ahead, behind, how many not kept. -/
structure Cn where
  at_ : Nat
  first : Nat
  last : Nat
  n : Nat
def cnStep (s : Cn) (c : UInt8) : Cn := ⟨if c = 43 then s.at_ else s.at_ + 1, if c = 32 then (if s.n = 0 then s.first + 1 else s.first) else s.first, if c = 32 then s.last + 1 else 0, if c = 32 then s.n else s.n + 1⟩
def cnF (f : Nat) (l : List UInt8) : Cn := l.foldl cnStep ⟨f, 0, 0, 0⟩
theorem cn_snoc (f : Nat) (l : List UInt8) (c : UInt8) : cnF f (l ++ [c]) = cnStep (cnF f l) c := by unfold cnF; rw [List.foldl_append]; rfl
theorem cn_add (c : UInt8) : ∀ (l : List UInt8) (s : Cn) (f : Nat), (l.foldl cnStep ⟨s.at_ + f, s.first, s.last, s.n⟩) = (let z := l.foldl cnStep s; (⟨z.at_ + f, z.first, z.last, z.n⟩ : Cn))
  | [], _, _ => rfl
  | d :: l, s, f => by
    show l.foldl cnStep (cnStep ⟨s.at_ + f, s.first, s.last, s.n⟩ d) = _
    have e : cnStep ⟨s.at_ + f, s.first, s.last, s.n⟩ d = ⟨(cnStep s d).at_ + f, (cnStep s d).first, (cnStep s d).last, (cnStep s d).n⟩ := by
      unfold cnStep
      by_cases hd : d = 43
      · simp [hd]
      · simp only [if_neg hd, Cn.mk.injEq, and_true]; omega
    rw [e]
    exact cn_add c l (cnStep s d) f
theorem cn_facts (f : Nat) (l : List UInt8) : ∀ k, k ≤ l.length → (cnF f (l.take k)).first ≤ k ∧ ∀ q, q < k → l.getD q 0 ≠ 32 → (cnF f (l.take k)).n ≠ 0 ∧ (cnF f (l.take k)).first ≤ q ∧ (cnF f (l.take k)).last + q + 1 ≤ k
  | 0, _ => ⟨Nat.le_refl _, fun q hq => by omega⟩
  | k + 1, hk => by
    obtain ⟨h1, h2⟩ := cn_facts f l k (by omega)
    rw [take_snoc l k 0 (by omega), cn_snoc]
    obtain ⟨s, hs⟩ : ∃ s, cnF f (l.take k) = s := ⟨_, rfl⟩
    rw [hs] at h1 h2 ⊢
    obtain ⟨c, hc⟩ : ∃ c, l.getD k 0 = c := ⟨_, rfl⟩
    rw [hc]
    unfold cnStep
    refine ⟨?_, fun q hq hne => ?_⟩
    · show (if c = 32 then (if s.n = 0 then s.first + 1 else s.first) else s.first) ≤ k + 1
      split
      · split <;> omega
      · omega
    · show (if c = 32 then s.n else s.n + 1) ≠ 0 ∧ (if c = 32 then (if s.n = 0 then s.first + 1 else s.first) else s.first) ≤ q ∧ (if c = 32 then s.last + 1 else 0) + q + 1 ≤ k + 1
      rcases Nat.lt_or_ge q k with hqk | hqk
      · obtain ⟨h3, h4, h5⟩ := h2 q hqk hne
        by_cases hc2 : c = 32
        · rw [if_pos hc2, if_pos hc2, if_pos hc2, if_neg h3]; exact ⟨h3, h4, by omega⟩
        · rw [if_neg hc2, if_neg hc2, if_neg hc2]; exact ⟨by omega, h4, by omega⟩
      · obtain rfl : q = k := by omega
        rw [hc] at hne
        rw [if_neg hne, if_neg hne, if_neg hne]; exact ⟨by omega, h1, by omega⟩
/-- A hunk that may be. -/
def GoodY (y : HkV) : Prop := y.ls ≠ [] ∧ (∀ x ∈ y.ls, x ≠ []) ∧ (cnF y.f (y.ls.map headB)).first ≤ 3 ∧ (cnF y.f (y.ls.map headB)).last ≤ 3 ∧ (cnF y.f (y.ls.map headB)).n ≠ 0
def endY (y : HkV) : Nat := (cnF y.f (y.ls.map headB)).at_
def okH : Int → List HkV → Prop
  | _, [] => True
  | e, y :: r => e < (y.f : Int) ∧ GoodY y ∧ okH (endY y : Nat) r
def endH : Int → List HkV → Int
  | e, [] => e
  | _, y :: r => endH (endY y : Nat) r
theorem ok_snoc (y : HkV) : ∀ (H : List HkV) (e : Int), okH e H → endH e H < (y.f : Int) → GoodY y → okH e (H ++ [y])
  | [], _, _, h2, h3 => ⟨h2, h3, trivial⟩
  | _ :: r, _, h1, h2, h3 => ⟨h1.1, h1.2.1, ok_snoc y r _ h1.2.2 h2 h3⟩
theorem end_snoc (y : HkV) : ∀ (H : List HkV) (e : Int), endH e (H ++ [y]) = (endY y : Nat)
  | [], _ => rfl
  | _ :: r, _ => end_snoc y r _
theorem near_ex {ms : List Int} {k : Nat} (h : nearF ms k = true) : ∃ q, q < ms.length ∧ k ≤ q + 3 ∧ q ≤ k + 3 ∧ ms.getD q 0 ≠ 1 := by
  rcases Classical.em (∃ q, q < ms.length ∧ k ≤ q + 3 ∧ q ≤ k + 3 ∧ ms.getD q 0 ≠ 1) with h1 | h1
  · exact h1
  · rw [near_no (ms := ms) (at_ := k) (fun j hj1 hj2 => by
      rcases Decidable.em (ms.getD (k - 3 + j) 0 = 1) with h2 | h2
      · exact h2
      · exact absurd ⟨k - 3 + j, hj2, by omega, by omega, h2⟩ h1)] at h
    cases h
theorem near_all {ms : List Int} {k q : Nat} (h : nearF ms k = false) (hq : q < ms.length) (h1 : k ≤ q + 3) (h2 : q ≤ k + 3) : ms.getD q 0 = 1 := by
  rcases Decidable.em (ms.getD q 0 = 1) with h3 | h3
  · exact h3
  · have e : k - 3 + (q - (k - 3)) = q := by omega
    rw [near_yes (ms := ms) (at_ := k) (k := q - (k - 3)) (by omega) (by omega) (by rw [e]; exact h3)] at h
    cases h
/-- The hunk that is open: it began at p. -/
structure OpenH (ms : List Int) (p e i : Nat) (y : HkV) : Prop where
  lt : p < e
  seg : y.ls.map headB = ((ms.take e).drop p).map signB
  ne : ∀ x ∈ y.ls, x ≠ []
  near : ∀ k, p ≤ k → k < e → nearF ms k = true
  pre : p = 0 ∨ nearF ms (p - 1) = false
  cnt : endY y = i
theorem seg_at {ms : List Int} {p e q : Nat} (h1 : p ≤ q) (h2 : q < e) (h3 : e ≤ ms.length) (hne : ms.getD q 0 ≠ 1) : (((ms.take e).drop p).map signB).getD (q - p) 0 ≠ 32 := by
  have h4 : (((ms.take e).drop p).map signB).getD (q - p) 0 = signB (ms.getD q 0) := by
    rw [List.getD_eq_getElem?_getD, List.getElem?_map, List.getElem?_drop, show p + (q - p) = q by omega, List.getElem?_take_of_lt h2, List.getD_eq_getElem?_getD, List.getElem?_eq_getElem (by omega)]
    rfl
  rw [h4]
  unfold signB
  rw [if_neg hne]
  split <;> decide
theorem OpenH.good {ms : List Int} {p e i : Nat} {y : HkV} (h : OpenH ms p e i y) (he : e ≤ ms.length) (hc : e = ms.length ∨ nearF ms e = false) : GoodY y := by
  have hlt := h.lt
  have hlen : (((ms.take e).drop p).map signB).length = e - p := by rw [List.length_map, List.length_drop, List.length_take]; omega
  have hF := cn_facts y.f (((ms.take e).drop p).map signB) (e - p) (by omega)
  rw [List.take_of_length_le (by omega), ← h.seg] at hF
  obtain ⟨q, q1, q2, q3, q4⟩ := near_ex (h.near p (Nat.le_refl _) hlt)
  have hq : p ≤ q := by
    rcases h.pre with h0 | h0
    · omega
    · rcases Nat.lt_or_ge q p with h1 | h1
      · exact absurd (near_all h0 q1 (by omega) (by omega)) q4
      · exact h1
  have hqe : q < e := by
    rcases hc with h0 | h0
    · omega
    · rcases Nat.lt_or_ge q e with h1 | h1
      · exact h1
      · exact absurd (near_all h0 q1 (by omega) (by omega)) q4
  obtain ⟨n1, n2, _⟩ := hF.2 (q - p) (by omega) (by rw [h.seg]; exact seg_at hq hqe he q4)
  obtain ⟨r, r1, r2, r3, r4⟩ := near_ex (h.near (e - 1) (by omega) (by omega))
  have hre : r < e := by
    rcases hc with h0 | h0
    · omega
    · rcases Nat.lt_or_ge r e with h1 | h1
      · exact h1
      · exact absurd (near_all h0 r1 (by omega) (by omega)) r4
  have hr : p ≤ r := by
    rcases h.pre with h0 | h0
    · omega
    · rcases Nat.lt_or_ge r p with h1 | h1
      · exact absurd (near_all h0 r1 (by omega) (by omega)) r4
      · exact h1
  obtain ⟨_, _, n3⟩ := hF.2 (r - p) (by omega) (by rw [h.seg]; exact seg_at hr hre he r4)
  refine ⟨fun e0 => ?_, h.ne, by omega, by omega, n1⟩
  have h5 := congrArg List.length h.seg
  rw [hlen, e0] at h5
  simp at h5; omega
/-- The state of the run. -/
def GoS (ms : List Int) (e i : Nat) (op : Bool) (H : List HkV) : Prop :=
  if op then ∃ H0 y p, H = H0 ++ [y] ∧ okH (-1) H0 ∧ endH (-1) H0 < (y.f : Int) ∧ OpenH ms p e i y
  else okH (-1) H ∧ endH (-1) H < (i : Int) ∧ (e = 0 ∨ nearF ms (e - 1) = false)
theorem seg_snoc {ms : List Int} {p e : Nat} {m : Int} {r : List Int} (hp : p ≤ e) (hr : ms.drop e = m :: r) : ((ms.take (e + 1)).drop p).map signB = ((ms.take e).drop p).map signB ++ [signB m] := by
  obtain ⟨_, h2, h3⟩ := drop_step (0 : Int) hr
  rw [take_snoc ms e 0 h2, h3, List.drop_append_of_le_length (by rw [List.length_take]; omega), List.map_append]
  rfl
theorem GoS.put {ms : List Int} {e i j i' : Nat} {op : Bool} {H : List HkV} {m : Int} {r : List Int} {c : UInt8} {l : Ln} (h : GoS ms e i op H) (hr : ms.drop e = m :: r) (hn : nearF ms e = true) (hm : c = signB m) (hi : i' = if c = 43 then i else i + 1) : GoS ms (e + 1) i' true (putF H op i j (c :: l)) := by
  unfold GoS
  rw [if_pos rfl]
  cases op with
  | true =>
    obtain ⟨H0, y, p, rfl, h1, h2, h3⟩ := h
    have e1 : putF (H0 ++ [y]) true i j (c :: l) = H0 ++ [⟨y.f, y.t, y.ls ++ [c :: l]⟩] := by unfold putF; rw [if_pos rfl]; simp
    refine ⟨H0, ⟨y.f, y.t, y.ls ++ [c :: l]⟩, p, e1, h1, h2, ⟨by have := h3.lt; omega, ?_, fun x hx => ?_, fun k hk1 hk2 => ?_, h3.pre, ?_⟩⟩
    · rw [seg_snoc (Nat.le_of_lt h3.lt) hr, ← h3.seg]
      show (y.ls ++ [c :: l]).map headB = _
      rw [List.map_append, hm]; rfl
    · rcases List.mem_append.1 hx with hx | hx
      · exact h3.ne x hx
      · rw [List.mem_singleton.1 hx]; simp
    · rcases Nat.lt_or_ge k e with h4 | h4
      · exact h3.near k hk1 h4
      · obtain rfl : k = e := by omega
        exact hn
    · have h4 := h3.cnt
      unfold endY at h4 ⊢
      show (cnF y.f ((y.ls ++ [c :: l]).map headB)).at_ = i'
      rw [List.map_append]
      show (cnF y.f (y.ls.map headB ++ [c])).at_ = i'
      rw [cn_snoc, hi, ← h4]
      rfl
  | false =>
    obtain ⟨h1, h2, h3⟩ := h
    have e1 : putF H false i j (c :: l) = H ++ [⟨i, j, [c :: l]⟩] := by unfold putF; rw [if_neg (by decide)]
    refine ⟨H, ⟨i, j, [c :: l]⟩, e, e1, h1, h2, ⟨Nat.lt_succ_self _, ?_, fun x hx => ?_, fun k hk1 hk2 => ?_, h3, ?_⟩⟩
    · rw [seg_snoc (Nat.le_refl _) hr, List.drop_eq_nil_of_le (by rw [List.length_take]; omega), hm]
      rfl
    · rw [List.mem_singleton.1 hx]; simp
    · obtain rfl : k = e := by omega
      exact hn
    · rw [hi]; rfl
theorem go_apart (ms : List Int) (a b : List Ln) (hmv : ∀ m ∈ ms, m = 1 ∨ m = 2 ∨ m = 3) : ∀ (r : List Int) (e i j : Nat) (op : Bool) (H : List HkV), ms.drop e = r → e ≤ ms.length → GoS ms e i op H → okH (-1) (hkGo ms a b r e i j op H)
  | [], e, i, j, op, H, hr, he, h => by
    show okH (-1) H
    have hl : ms.length ≤ e := List.drop_eq_nil_iff.1 hr
    cases op with
    | true =>
      obtain ⟨H0, y, p, rfl, h1, h2, h3⟩ := h
      exact ok_snoc y H0 _ h1 h2 (h3.good he (.inl (by omega)))
    | false => exact h.1
  | m :: r, e, i, j, op, H, hr, he, h => by
    obtain ⟨d1, d2, d3⟩ := drop_step (0 : Int) hr
    have hm := hmv m (by rw [← d3]; exact getD_mem d2)
    rw [go_cons]
    by_cases hn : nearF ms e = true
    · rw [if_pos hn]
      by_cases m1 : m = 1
      · rw [if_pos m1]
        exact go_apart ms a b hmv r (e + 1) (i + 1) (j + 1) true _ d1 d2 (h.put hr hn (by rw [m1]; rfl) (by rw [if_neg (by decide)]))
      · rw [if_neg m1]
        by_cases m2 : m = 2
        · rw [if_pos m2]
          exact go_apart ms a b hmv r (e + 1) (i + 1) j true _ d1 d2 (h.put hr hn (by rw [m2]; rfl) (by rw [if_neg (by decide)]))
        · rw [if_neg m2]
          exact go_apart ms a b hmv r (e + 1) i (j + 1) true _ d1 d2 (h.put hr hn (by unfold signB; rw [if_neg m1, if_neg m2]) (by rw [if_pos rfl]))
    · rw [if_neg hn]
      have hn' : nearF ms e = false := by simpa using hn
      refine go_apart ms a b hmv r (e + 1) (i + 1) (j + 1) false H d1 d2 ?_
      unfold GoS
      rw [if_neg (by decide)]
      cases op with
      | true =>
        obtain ⟨H0, y, p, rfl, h1, h2, h3⟩ := h
        refine ⟨ok_snoc y H0 _ h1 h2 (h3.good he (.inr hn')), ?_, .inr hn'⟩
        rw [end_snoc, h3.cnt]; omega
      | false => exact ⟨h.1, by have := h.2.1; omega, .inr hn'⟩
theorem hunks_apart (a b : List Ln) : okH (-1) (hunksF a b) := go_apart (scrL a b) a b (fit_moves (fit_scr a b)) _ 0 0 0 false [] rfl (Nat.zero_le _) (by unfold GoS; rw [if_neg (by decide)]; exact ⟨trivial, by decide, .inl rfl⟩)
theorem top_apart (s t : Ln) : okH (-1) (topF s t).1 := by
  unfold topF
  split
  · split
    · trivial
    · exact hunks_apart _ _
  · trivial
#print axioms top_apart
end Go.Proofs.YtfoalaoanpbmeaaDoor
