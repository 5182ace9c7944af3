/-
  Plainly: a text's lines; how the library splits it behind each byte 10.
-/
import Derived.Lib.SplitLaws
import Derived.Shelf.Strings.Split
namespace Go.Proofs.YtfoalaoanpbmeaaDoor
open Go.Lib

/-- A text's lines: each with the byte 10 at its end, but the last one, perhaps. -/
def linesF : List UInt8 → List (List UInt8)
  | [] => []
  | c :: r => if c = 10 then [10] :: linesF r else match linesF r with
    | [] => [[c]]
    | l :: ls => (c :: l) :: ls
theorem lines_flat : ∀ s, (linesF s).flatten = s
  | [] => rfl
  | c :: r => by
    have ih := lines_flat r
    unfold linesF
    by_cases h : c = 10
    · rw [if_pos h, List.flatten_cons, ih, h]; rfl
    · rw [if_neg h]
      split
      · rename_i h2
        rw [h2] at ih
        rw [← ih]; rfl
      · rename_i l ls h2
        rw [h2] at ih
        rw [← ih]; rfl
/-- A line that may be: some bytes, none of them 10 ahead of the last one. -/
def LineOk (l : List UInt8) : Prop := l ≠ [] ∧ ∀ k, k + 1 < l.length → l.getD k 0 ≠ 10
theorem lines_ok : ∀ s, (∀ l ∈ linesF s, LineOk l) ∧ ∀ i, i + 1 < (linesF s).length → ((linesF s).getD i []).getD (((linesF s).getD i []).length - 1) 0 = 10
  | [] => ⟨(fun l h => by cases h), (fun i h => by simp [linesF] at h)⟩
  | c :: r => by
    obtain ⟨h1, h2⟩ := lines_ok r
    unfold linesF
    by_cases h : c = 10
    · rw [if_pos h]
      refine ⟨fun l hl => ?_, fun i hi => ?_⟩
      · rcases List.mem_cons.1 hl with rfl | hl
        · exact ⟨by simp, fun k hk => by simp at hk⟩
        · exact h1 l hl
      · cases i with
        | zero => rfl
        | succ i => exact h2 i (by simpa using hi)
    · rw [if_neg h]
      split
      · refine ⟨fun l hl => ?_, fun i hi => by simp at hi⟩
        obtain rfl : l = [c] := by simpa using hl
        exact ⟨by simp, fun k hk => by simp at hk⟩
      · rename_i l ls h3
        rw [h3] at h1 h2
        refine ⟨fun x hx => ?_, fun i hi => ?_⟩
        · rcases List.mem_cons.1 hx with rfl | hx
          · obtain ⟨h4, h5⟩ := h1 l (by simp)
            refine ⟨by simp, fun k hk => ?_⟩
            cases k with
            | zero => simpa using h
            | succ k => simpa using h5 k (by simpa using hk)
          · exact h1 x (List.mem_cons_of_mem _ hx)
        · cases i with
          | zero =>
            have h6 := h2 0 (by simpa using hi)
            have h4 := (h1 l (by simp)).1
            simp only [List.getD_cons_zero] at h6 ⊢
            obtain ⟨k, hk⟩ : ∃ k, l.length = k + 1 := ⟨l.length - 1, by have := List.length_pos_iff.2 h4; omega⟩
            rw [hk] at h6
            rw [List.length_cons, hk]
            simpa using h6
          | succ i => simpa using h2 (i + 1) (by simpa using hi)

/-- What the library makes of it: a piece more where the last byte is 10. -/
def splitA : List UInt8 → List (List UInt8)
  | [] => [[]]
  | c :: r => if c = 10 then [10] :: splitA r else (c :: (splitA r).headD []) :: (splitA r).tail
theorem splitA_ne (s : List UInt8) : splitA s ≠ [] := by
  cases s with
  | nil => simp [splitA]
  | cons c r => unfold splitA; split <;> simp
theorem splitA_count : ∀ s : List UInt8, (splitA s).length = s.count 10 + 1
  | [] => rfl
  | c :: r => by
    have ih := splitA_count r
    unfold splitA
    by_cases h : c = 10
    · rw [if_pos h, h]; simp [ih]
    · rw [if_neg h, List.count_cons_of_ne (by simpa using h)]
      simp only [List.length_cons, List.length_tail]
      omega
theorem idx_ten (c : UInt8) (r : List UInt8) : index (c :: r) [10] = if c = 10 then 0 else if index r [10] = -1 then -1 else index r [10] + 1 := by
  rw [index_one, index_one]
  show (if c == 10 then (0 : Int) else if indexByte r 10 == -1 then -1 else indexByte r 10 + 1) = _
  by_cases h : c = 10
  · simp [h]
  · simp [h]
theorem idx_none : ∀ s : List UInt8, index s [10] = -1 → s.count 10 = 0
  | [], _ => rfl
  | c :: r, h => by
    rw [idx_ten] at h
    by_cases hc : c = 10
    · rw [if_pos hc] at h; omega
    · rw [if_neg hc] at h
      rw [List.count_cons_of_ne (by simpa using hc)]
      refine idx_none r ?_
      by_cases h2 : index r [10] = -1
      · exact h2
      · rw [if_neg h2] at h
        have h3 := index_one r 10
        have h4 := indexByte_ge r 10
        omega
theorem splitK_ten : ∀ s : List UInt8, splitK [10] 1 (s.count 10) s = splitA s
  | [] => rfl
  | c :: r => by
    have ih := splitK_ten r
    unfold splitA
    by_cases hc : c = 10
    · rw [if_pos hc, hc, List.count_cons_self]
      unfold splitK
      have e : index (10 :: r) [10] = 0 := by rw [idx_ten, if_pos rfl]
      rw [e]
      show (if ((0 : Int) == -1) = true then _ else _) = _
      rw [if_neg (by decide)]
      show List.take 1 (10 :: r) :: splitK [10] 1 (r.count 10) (List.drop 1 (10 :: r)) = _
      rw [show List.drop 1 (10 :: r) = r from rfl, ih]
      rfl
    · rw [if_neg hc, List.count_cons_of_ne (by simpa using hc)]
      rcases hk : r.count 10 with _ | k
      · rw [hk] at ih
        rw [← ih]
        rfl
      · rw [hk] at ih
        rw [← ih]
        have hn : index r [10] ≠ -1 := fun h => by have := idx_none r h; omega
        have hge := indexByte_ge r 10
        have h1 := index_one r 10
        unfold splitK
        have e : index (c :: r) [10] = index r [10] + 1 := by rw [idx_ten, if_neg hc, if_neg hn]
        rw [e, if_neg (by rw [beq_iff_eq]; omega), if_neg (by rw [beq_iff_eq]; exact hn)]
        obtain ⟨i, hi⟩ : ∃ i : Nat, index r [10] = i := ⟨(index r [10]).toNat, by omega⟩
        rw [hi, show ((i : Int) + 1).toNat = i + 1 by omega, show ((i : Int)).toNat = i by omega]
        simp only [List.headD_cons, List.tail_cons, List.length_cons, List.length_nil, Nat.zero_add]
        rw [show i + 1 + 1 = (i + 1) + 1 from rfl, List.take_succ_cons, List.drop_succ_cons]
/-- Without the last piece, if that is empty. -/
def chopF (l : List (List UInt8)) : List (List UInt8) := if l.getLast? = some [] then l.dropLast else l
theorem chop_cons {x : List UInt8} {l : List (List UInt8)} (h : l ≠ []) : chopF (x :: l) = x :: chopF l := by
  unfold chopF
  obtain ⟨y, ys, rfl⟩ := List.exists_cons_of_ne_nil h
  rw [List.getLast?_cons_cons]
  by_cases h2 : (y :: ys).getLast? = some []
  · rw [if_pos h2, if_pos h2]; rfl
  · rw [if_neg h2, if_neg h2]
theorem chop_split : ∀ s : List UInt8, chopF (splitA s) = linesF s
  | [] => rfl
  | c :: r => by
    have ih := chop_split r
    unfold splitA linesF
    by_cases hc : c = 10
    · rw [if_pos hc, if_pos hc, chop_cons (splitA_ne r), ih]
    · rw [if_neg hc, if_neg hc]
      obtain ⟨x, xs, hx⟩ := List.exists_cons_of_ne_nil (splitA_ne r)
      rw [hx] at ih ⊢
      rw [← ih]
      simp only [List.headD_cons, List.tail_cons]
      by_cases hxs : xs = []
      · subst hxs
        by_cases h0 : x = []
        · subst h0; rfl
        · have e1 : chopF [x] = [x] := by unfold chopF; rw [if_neg (by simpa using h0)]
          have e2 : chopF [c :: x] = [c :: x] := by unfold chopF; rw [if_neg (by simp)]
          rw [e1, e2]
      · rw [chop_cons hxs, chop_cons hxs]
theorem splitB_ten (s : ByteArray) : (splitB ⟨#[10]⟩ 1 (s.data.toList.count 10) s).map (·.data.toList) = splitA s.data.toList := by
  rw [splitB_data]
  exact splitK_ten s.data.toList
theorem lines_len : ∀ s : List UInt8, (linesF s).length ≤ s.length
  | [] => Nat.le_refl _
  | c :: r => by
    have ih := lines_len r
    unfold linesF
    by_cases hc : c = 10
    · rw [if_pos hc]; simp; exact ih
    · rw [if_neg hc]
      split
      · simp
      · rename_i l ls h
        rw [h] at ih
        simp at ih ⊢; omega
#print axioms splitB_ten
end Go.Proofs.YtfoalaoanpbmeaaDoor
