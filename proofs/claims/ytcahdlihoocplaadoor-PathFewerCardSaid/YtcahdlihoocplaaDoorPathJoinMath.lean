/-
  A path is its parts: texts cut at slashes.
-/
import Derived.Test.YtcahdlihoocplaaDoorPathMath
namespace Go.Proofs.YtcahdlihoocplaaDoor

theorem enc47 : encF 47 = [47] := by decide

/-- A text with a slash in it is two texts. -/
theorem text_split : ∀ (L : List Nat) (a b : List UInt8), (∀ n, n ∈ L → mayF n = true) → textF L = a ++ 47 :: b → ∃ A B, L = A ++ 47 :: B ∧ a = textF A ∧ b = textF B
  | [], a, b, _, h => by
    have h1 := congrArg List.length h
    simp [textF] at h1
  | n :: L, a, b, hm, h => by
    have hn := hm n (List.mem_cons_self ..)
    have hL := fun x hx => hm x (List.mem_cons_of_mem _ hx)
    have ht : textF (n :: L) = encF n ++ textF L := by simp [textF]
    rw [ht] at h
    rcases List.append_eq_append_iff.1 h with ⟨c, h1, h2⟩ | ⟨c, h1, h2⟩
    · -- a = encF n ++ c, textF L = c ++ 47 :: b
      obtain ⟨A, B, rfl, rfl, rfl⟩ := text_split L c b hL h2
      exact ⟨n :: A, B, rfl, by rw [h1]; simp [textF], rfl⟩
    · -- encF n = a ++ c, 47 :: b = c ++ textF L
      cases c with
      | nil =>
        rw [List.nil_append] at h2
        obtain ⟨A, B, h3, h4, rfl⟩ := text_split L [] b hL (by rw [← h2]; rfl)
        refine ⟨n :: A, B, by rw [h3]; rfl, ?_, rfl⟩
        have h5 : a = encF n := by rw [h1]; simp
        rw [h5, show textF (n :: A) = encF n ++ textF A from by simp [textF], ← h4, List.append_nil]
      | cons e c =>
        rw [List.cons_append] at h2
        injection h2 with h3 h4
        have h47 : n = 47 := by
          apply Classical.byContradiction
          intro hne
          exact enc_no47 hn hne e (by rw [h1]; simp) h3.symm
        subst h47
        rw [enc47] at h1
        have hl := congrArg List.length h1
        simp at hl
        have ha : a = [] := List.eq_nil_of_length_eq_zero (by omega)
        have hc : c = [] := List.eq_nil_of_length_eq_zero (by omega)
        subst ha; subst hc
        exact ⟨[], L, rfl, rfl, by simpa using h4⟩

theorem seen47 : seenF 47 = true := by decide

theorem runesF_of {l : List UInt8} {A : List Nat} (hA : ∀ n, n ∈ A → mayF n = true) (h : l = textF A) : runesF l = (some A, l.length) := by rw [h]; exact runesF_text hA

theorem runesOk_split {a b : List UInt8} (h : runesOk (a ++ 47 :: b) = true) : runesOk a = true ∧ runesOk b = true := by
  cases hr : runesF (a ++ 47 :: b) with
  | mk o e =>
    cases o with
    | none => rw [runesOk_none hr] at h; cases h
    | some L =>
      rw [runesOk_some hr] at h
      obtain ⟨hm, ht, _⟩ := runesF_some hr
      obtain ⟨A, B, rfl, ha, hb⟩ := text_split L a b hm ht.symm
      rw [List.all_append, List.all_cons, Bool.and_eq_true, Bool.and_eq_true] at h
      rw [runesOk_some (runesF_of (fun n hn => hm n (by simp [hn])) ha), runesOk_some (runesF_of (fun n hn => hm n (by simp [hn])) hb)]
      exact ⟨h.1, h.2.2⟩

/-! Pieces of a text with a slash. -/
theorem pcS_front (a r : List UInt8) : ∀ i, i ≤ a.length → pcS (a ++ r) i = pcS a i
  | 0, _ => rfl
  | i + 1, h => by
    have h1 : (a ++ r).getD i 0 = a.getD i 0 := by rw [List.getD_eq_getElem?_getD, List.getD_eq_getElem?_getD, List.getElem?_append_left (by omega)]
    have hle := pcS_le a i
    unfold pcS
    rw [h1, pcS_front a r i (by omega), List.drop_append_of_le_length (by omega), List.take_append_of_le_length (by simp; omega)]
theorem pcS_slash (a b : List UInt8) : pcS (a ++ 47 :: b) (a.length + 1) = (pcs a, a.length + 1) := by
  rw [pcS_at (by simp [List.getD_eq_getElem?_getD]), pcS_front a _ _ (Nat.le_refl _)]
  have hle := pcS_le a a.length
  unfold pcs
  congr 3
  rw [List.drop_append_of_le_length (by omega), List.take_append_of_le_length (by simp), List.take_of_length_le (by simp)]
theorem pcS_behind (a b : List UInt8) : ∀ j, j ≤ b.length → pcS (a ++ 47 :: b) (a.length + 1 + j) = (pcs a ++ (pcS b j).1, a.length + 1 + (pcS b j).2)
  | 0, _ => by rw [Nat.add_zero, pcS_slash]; simp [pcS]
  | j + 1, h => by
    have ih := pcS_behind a b j (by omega)
    have h1 : (a ++ 47 :: b).getD (a.length + 1 + j) 0 = b.getD j 0 := by
      rw [List.getD_eq_getElem?_getD, List.getD_eq_getElem?_getD, List.getElem?_append_right (by omega), show a.length + 1 + j - a.length = j + 1 from by omega, List.getElem?_cons_succ]
    by_cases hb : b.getD j 0 = 47
    · rw [← Nat.add_assoc, pcS_at (by rw [h1]; exact hb), ih, pcS_at hb]
      have hle := pcS_le b j
      have hs : ((a ++ 47 :: b).drop (a.length + 1 + (pcS b j).2)).take (a.length + 1 + j - (a.length + 1 + (pcS b j).2)) = (b.drop (pcS b j).2).take (j - (pcS b j).2) := by
        rw [show a.length + 1 + (pcS b j).2 = a.length + ((pcS b j).2 + 1) from by omega, ← List.drop_drop, List.drop_left, List.drop_succ_cons, show a.length + 1 + j - (a.length + ((pcS b j).2 + 1)) = j - (pcS b j).2 from by omega]
      refine Prod.ext ?_ ?_
      · show (pcs a ++ (pcS b j).1) ++ [_] = pcs a ++ ((pcS b j).1 ++ [_])
        rw [hs, List.append_assoc]
      · show a.length + 1 + j + 1 = a.length + 1 + (j + 1)
        omega
    · rw [← Nat.add_assoc, pcS_not (by rw [h1]; exact hb), ih, pcS_not hb]
theorem pcs_slash (a b : List UInt8) : pcs (a ++ 47 :: b) = pcs a ++ pcs b := by
  conv => lhs; unfold pcs
  rw [show (a ++ 47 :: b).length = a.length + 1 + b.length from by simp; omega, pcS_behind a b _ (Nat.le_refl _)]
  unfold pcs
  simp only [List.append_assoc]
  congr 3
  rw [show a.length + 1 + (pcS b b.length).2 = a.length + ((pcS b b.length).2 + 1) from by omega, ← List.drop_drop, List.drop_left, List.drop_succ_cons]
theorem pcS_no47 (a : List UInt8) (h : ∀ c, c ∈ a → c ≠ 47) : ∀ i, i ≤ a.length → pcS a i = ([], 0)
  | 0, _ => rfl
  | i + 1, hi => by
    rw [pcS_not, pcS_no47 a h i (by omega)]
    rw [List.getD_eq_getElem?_getD, List.getElem?_eq_getElem (by omega)]
    exact h _ (List.getElem_mem _)
theorem pcs_no47 {a : List UInt8} (h : ∀ c, c ∈ a → c ≠ 47) : pcs a = [a] := by unfold pcs; rw [pcS_no47 a h _ (Nat.le_refl _)]; rfl

/-- Either no slash, or one behind the first piece. -/
theorem cut_cases (s : List UInt8) : (∀ c, c ∈ s → c ≠ 47) ∨ ∃ a b, s = a ++ 47 :: b ∧ ∀ c, c ∈ a → c ≠ 47 := by
  rcases hd_rest s with h | ⟨r, h⟩
  · left
    have : s = hdF s := by
      conv => lhs; rw [← List.take_append_drop (hdF s).length s, h, hd_take]
      simp
    rw [this]; exact hd_no47 s
  · right
    refine ⟨hdF s, r, ?_, hd_no47 s⟩
    conv => lhs; rw [← List.take_append_drop (hdF s).length s, h, hd_take]

theorem goodParts_append (l m : List (List UInt8)) : goodParts (l ++ m) = (goodParts l && goodParts m) := by simp [goodParts]

/-- What may be a path but for its length. -/
def okF (s : List UInt8) : Bool := runesOk s && goodParts (pcs s)
theorem okF_split {a b : List UInt8} (h : okF (a ++ 47 :: b) = true) : okF a = true ∧ okF b = true := by
  unfold okF at h ⊢
  rw [Bool.and_eq_true, pcs_slash, goodParts_append, Bool.and_eq_true] at h
  obtain ⟨h1, h2, h3⟩ := h
  obtain ⟨h4, h5⟩ := runesOk_split h1
  rw [h4, h5, h2, h3]
  exact ⟨rfl, rfl⟩
theorem pathF_ok (s : List UInt8) : pathF s = (decide (1 ≤ s.length) && decide (s.length ≤ 64) && okF s) := by unfold pathF okF; rw [← Bool.and_assoc]
theorem goodParts_ne {s : List UInt8} (h : goodParts (pcs s) = true) : s ≠ [] := by
  rintro rfl
  revert h; decide
theorem pathF_of {s : List UInt8} (h : okF s = true) (hl : s.length ≤ 64) : pathF s = true := by
  rw [pathF_ok, h]
  have hne : s ≠ [] := by
    unfold okF at h
    rw [Bool.and_eq_true] at h
    exact goodParts_ne h.2
  have : 0 < s.length := List.length_pos_iff.2 hne
  simp; omega

/-- The beginnings of a path: what its first pieces are, with a slash between each two. -/
def joinF : List (List UInt8) → List UInt8
  | [] => []
  | [p] => p
  | p :: q :: r => p ++ 47 :: joinF (q :: r)
theorem joinF_cons {p : List UInt8} {l : List (List UInt8)} (h : l ≠ []) : joinF (p :: l) = p ++ 47 :: joinF l := by
  cases l with
  | nil => exact absurd rfl h
  | cons q r => rfl
theorem joinF_snoc (l : List (List UInt8)) (p : List UInt8) (h : l ≠ []) : joinF (l ++ [p]) = joinF l ++ 47 :: p := by
  induction l with
  | nil => exact absurd rfl h
  | cons q r ih =>
    by_cases hr : r = []
    · subst hr; rfl
    · rw [List.cons_append, joinF_cons (by simp), ih hr, joinF_cons hr]; simp
theorem pcs_ne (s : List UInt8) : pcs s ≠ [] := by unfold pcs; simp
theorem joinF_append (l m : List (List UInt8)) (hl : l ≠ []) (hm : m ≠ []) : joinF (l ++ m) = joinF l ++ 47 :: joinF m := by
  induction l with
  | nil => exact absurd rfl hl
  | cons q r ih =>
    by_cases hr : r = []
    · subst hr; rw [List.cons_append, List.nil_append, joinF_cons hm]; rfl
    · rw [List.cons_append, joinF_cons (by simp [hm]), ih hr, joinF_cons hr]; simp

/-- WHAT A PATH's PIECES ARE: strong induction on its length. -/
theorem pieces_of (s : List UInt8) : joinF (pcs s) = s ∧ (okF s = true → ∀ p, p ∈ pcs s → okF p = true) := by
  generalize hn : s.length = n
  induction n using Nat.strongRecOn generalizing s with
  | ind n ih =>
    rcases cut_cases s with h | ⟨a, b, rfl, h⟩
    · rw [pcs_no47 h]
      refine ⟨rfl, fun ho p hp => ?_⟩
      simp at hp; subst hp; exact ho
    · obtain ⟨h1, h2⟩ := ih b.length (by rw [← hn]; simp; omega) b rfl
      rw [pcs_slash, pcs_no47 h]
      refine ⟨?_, fun ho p hp => ?_⟩
      · rw [joinF_append _ _ (by simp) (pcs_ne b), h1]; rfl
      · obtain ⟨h3, h4⟩ := okF_split ho
        rcases List.mem_append.1 hp with hp | hp
        · simp at hp; subst hp; exact h3
        · exact h2 h4 p hp
theorem okF_join (l m : List (List UInt8)) (hl : l ≠ []) (h : okF (joinF (l ++ m)) = true) : okF (joinF l) = true := by
  by_cases hm : m = []
  · subst hm; simpa using h
  · rw [joinF_append l m hl hm] at h
    exact (okF_split h).1
theorem clash_join (l m : List (List UInt8)) (hl : l ≠ []) : clashF (joinF l) (joinF (l ++ m)) = true := by
  rw [clashF_iff]
  by_cases hm : m = []
  · subst hm; left; simp
  · right; left; exact ⟨joinF m, joinF_append l m hl hm⟩
theorem join_len (l m : List (List UInt8)) (hl : l ≠ []) : (joinF l).length ≤ (joinF (l ++ m)).length := by
  by_cases hm : m = []
  · subst hm; simp
  · rw [joinF_append l m hl hm]; simp

/-- Of a path: the beginning of i + 1 pieces, and the piece i. -/
theorem path_parts {s : List UInt8} (h : pathF s = true) {i : Nat} (hi : i < (pcs s).length) :
    pathF ((pcs s).getD i []) = true ∧ pathF (joinF ((pcs s).take (i + 1))) = true ∧ clashF (joinF ((pcs s).take (i + 1))) s = true := by
  obtain ⟨hj, hp⟩ := pieces_of s
  rw [pathF_ok, Bool.and_eq_true, Bool.and_eq_true] at h
  obtain ⟨⟨h1, h2⟩, h3⟩ := h
  have h2 : s.length ≤ 64 := by simpa using h2
  have hne : (pcs s).take (i + 1) ≠ [] := by
    intro e
    have := congrArg List.length e
    rw [List.length_take, List.length_nil] at this; omega
  have hs : joinF ((pcs s).take (i + 1) ++ (pcs s).drop (i + 1)) = s := by rw [List.take_append_drop, hj]
  have hlen := join_len _ ((pcs s).drop (i + 1)) hne
  rw [hs] at hlen
  have hmem : (pcs s).getD i [] ∈ pcs s := by
    rw [List.getD_eq_getElem?_getD, List.getElem?_eq_getElem hi]; exact List.getElem_mem hi
  refine ⟨pathF_of (hp h3 _ hmem) ?_, pathF_of (okF_join _ ((pcs s).drop (i + 1)) hne (by rw [hs]; exact h3)) (by omega), ?_⟩
  · have : ∀ l : List (List UInt8), ∀ p, p ∈ l → p.length ≤ (joinF l).length := by
      intro l
      induction l with
      | nil => intro p hp; cases hp
      | cons q r ih =>
        intro p hp
        by_cases hr : r = []
        · subst hr; simp at hp; subst hp; exact Nat.le_refl _
        · rw [joinF_cons hr]
          rcases List.mem_cons.1 hp with rfl | hp
          · simp
          · have := ih p hp; simp; omega
    have := this _ _ hmem
    rw [hj] at this; omega
  · have := clash_join _ ((pcs s).drop (i + 1)) hne
    rw [hs] at this; exact this
end Go.Proofs.YtcahdlihoocplaaDoor
