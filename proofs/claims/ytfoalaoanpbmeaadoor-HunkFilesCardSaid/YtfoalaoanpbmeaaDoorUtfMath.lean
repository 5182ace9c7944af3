/-
  Plain facts on runes and their bytes (UTF-8): what is written, what is read, texts. No program is named here.
-/
import Derived.Below
namespace Go.Proofs.YtfoalaoanpbmeaaDoor

/-- A rune that may be. -/
def mayF (n : Nat) : Bool := decide (n < 55296) || (decide (57343 < n) && decide (n ≤ 1114111))
theorem mayF_iff (n : Nat) : mayF n = true ↔ n < 55296 ∨ (57343 < n ∧ n ≤ 1114111) := by simp [mayF]

/-- A rune's bytes. -/
def encF (n : Nat) : List UInt8 :=
  if n < 128 then [UInt8.ofNat n]
  else if n < 2048 then [UInt8.ofNat (192 + n / 64), UInt8.ofNat (128 + n % 64)]
  else if n < 65536 then [UInt8.ofNat (224 + n / 4096), UInt8.ofNat (128 + n / 64 % 64), UInt8.ofNat (128 + n % 64)]
  else [UInt8.ofNat (240 + n / 262144), UInt8.ofNat (128 + n / 4096 % 64), UInt8.ofNat (128 + n / 64 % 64), UInt8.ofNat (128 + n % 64)]

theorem encF_length (n : Nat) : (encF n).length = if n < 128 then 1 else if n < 2048 then 2 else if n < 65536 then 3 else 4 := by
  unfold encF
  repeat' split
  all_goals rfl
theorem encF_pos (n : Nat) : 1 ≤ (encF n).length ∧ (encF n).length ≤ 4 := by
  rw [encF_length]
  repeat' split
  all_goals omega

/-- A byte that goes on. -/
def contF (c : UInt8) : Bool := decide (128 ≤ c.toNat) && decide (c.toNat < 192)

/-- What stands at the beginning: a rune, and how many bytes it has. -/
def decF : List UInt8 → Option (Nat × Nat)
  | [] => none
  | a :: r =>
    if a.toNat < 128 then some (a.toNat, 1)
    else if a.toNat < 194 then none
    else if a.toNat < 224 then
      match r with
      | b :: _ => if contF b = true then some ((a.toNat - 192) * 64 + (b.toNat - 128), 2) else none
      | [] => none
    else if a.toNat < 240 then
      match r with
      | b :: c :: _ =>
        if contF b = true ∧ contF c = true ∧ 2048 ≤ (a.toNat - 224) * 4096 + (b.toNat - 128) * 64 + (c.toNat - 128) ∧ mayF ((a.toNat - 224) * 4096 + (b.toNat - 128) * 64 + (c.toNat - 128)) = true
        then some ((a.toNat - 224) * 4096 + (b.toNat - 128) * 64 + (c.toNat - 128), 3) else none
      | _ => none
    else
      match r with
      | b :: c :: d :: _ =>
        if contF b = true ∧ contF c = true ∧ contF d = true ∧ 65536 ≤ (a.toNat - 240) * 262144 + (b.toNat - 128) * 4096 + (c.toNat - 128) * 64 + (d.toNat - 128) ∧ (a.toNat - 240) * 262144 + (b.toNat - 128) * 4096 + (c.toNat - 128) * 64 + (d.toNat - 128) ≤ 1114111
        then some ((a.toNat - 240) * 262144 + (b.toNat - 128) * 4096 + (c.toNat - 128) * 64 + (d.toNat - 128), 4) else none
      | _ => none

theorem contF_iff (c : UInt8) : contF c = true ↔ 128 ≤ c.toNat ∧ c.toNat < 192 := by simp [contF]
theorem ofNat_toNat (n : Nat) (h : n < 256) : (UInt8.ofNat n).toNat = n := by simp; omega

/-- What was written is read. -/
theorem decF_enc (n : Nat) (h : mayF n = true) (r : List UInt8) : decF (encF n ++ r) = some (n, (encF n).length) := by
  have hm := (mayF_iff n).1 h
  rw [encF_length]
  unfold encF
  by_cases h1 : n < 128
  · rw [if_pos h1, if_pos h1]
    simp only [List.cons_append, List.nil_append, decF, ofNat_toNat n (by omega)]
    rw [if_pos h1]
  · rw [if_neg h1, if_neg h1]
    by_cases h2 : n < 2048
    · rw [if_pos h2, if_pos h2]
      have e1 := ofNat_toNat (192 + n / 64) (by omega)
      have e2 := ofNat_toNat (128 + n % 64) (by omega)
      have ev : (192 + n / 64 - 192) * 64 + (128 + n % 64 - 128) = n := by omega
      simp only [List.cons_append, List.nil_append, decF, e1, e2, ev]
      rw [if_neg (by omega), if_neg (by omega), if_pos (by omega), if_pos (by rw [contF_iff, e2]; omega)]
    · rw [if_neg h2, if_neg h2]
      by_cases h3 : n < 65536
      · rw [if_pos h3, if_pos h3]
        have e1 := ofNat_toNat (224 + n / 4096) (by omega)
        have e2 := ofNat_toNat (128 + n / 64 % 64) (by omega)
        have e3 := ofNat_toNat (128 + n % 64) (by omega)
        have ev : (224 + n / 4096 - 224) * 4096 + (128 + n / 64 % 64 - 128) * 64 + (128 + n % 64 - 128) = n := by omega
        simp only [List.cons_append, List.nil_append, decF, e1, e2, e3, ev]
        rw [if_neg (by omega), if_neg (by omega), if_neg (by omega), if_pos (by omega), if_pos ⟨by rw [contF_iff, e2]; omega, by rw [contF_iff, e3]; omega, by omega, h⟩]
      · rw [if_neg h3, if_neg h3]
        have e1 := ofNat_toNat (240 + n / 262144) (by omega)
        have e2 := ofNat_toNat (128 + n / 4096 % 64) (by omega)
        have e3 := ofNat_toNat (128 + n / 64 % 64) (by omega)
        have e4 := ofNat_toNat (128 + n % 64) (by omega)
        have ev : (240 + n / 262144 - 240) * 262144 + (128 + n / 4096 % 64 - 128) * 4096 + (128 + n / 64 % 64 - 128) * 64 + (128 + n % 64 - 128) = n := by omega
        simp only [List.cons_append, List.nil_append, decF, e1, e2, e3, e4, ev]
        rw [if_neg (by omega), if_neg (by omega), if_neg (by omega), if_neg (by omega), if_pos ⟨by rw [contF_iff, e2]; omega, by rw [contF_iff, e3]; omega, by rw [contF_iff, e4]; omega, by omega, by omega⟩]

theorem byte_eq (c : UInt8) (n : Nat) (h : n = c.toNat) : UInt8.ofNat n = c := by rw [h]; simp

/-- What is read was written so, and in no other way. -/
theorem decF_some {s : List UInt8} {n k : Nat} (h : decF s = some (n, k)) : mayF n = true ∧ k = (encF n).length ∧ k ≤ s.length ∧ s.take k = encF n := by
  cases s with
  | nil => simp [decF] at h
  | cons a r =>
    have ha := a.toNat_lt
    rw [decF.eq_def] at h
    dsimp only at h
    by_cases h1 : a.toNat < 128
    · rw [if_pos h1] at h
      simp only [Option.some.injEq, Prod.mk.injEq] at h
      obtain ⟨rfl, rfl⟩ := h
      refine ⟨(mayF_iff _).2 (by omega), by rw [encF_length, if_pos h1], by simp, ?_⟩
      unfold encF
      rw [if_pos h1]
      simp
    · rw [if_neg h1] at h
      by_cases h2 : a.toNat < 194
      · rw [if_pos h2] at h; cases h
      · rw [if_neg h2] at h
        by_cases h3 : a.toNat < 224
        · rw [if_pos h3] at h
          cases r with
          | nil => cases h
          | cons b r =>
            simp only at h
            by_cases hb : contF b = true
            · rw [if_pos hb] at h
              simp only [Option.some.injEq, Prod.mk.injEq] at h
              obtain ⟨rfl, rfl⟩ := h
              rw [contF_iff] at hb
              refine ⟨(mayF_iff _).2 (by omega), by rw [encF_length, if_neg (by omega), if_pos (by omega)], by simp, ?_⟩
              unfold encF
              rw [if_neg (by omega), if_pos (by omega), byte_eq a _ (by omega), byte_eq b _ (by omega)]
              rfl
            · rw [if_neg hb] at h; cases h
        · rw [if_neg h3] at h
          by_cases h4 : a.toNat < 240
          · rw [if_pos h4] at h
            match r, h with
            | [], h => cases h
            | [_], h => cases h
            | b :: c :: r, h =>
              simp only at h
              by_cases hb : contF b = true ∧ contF c = true ∧ 2048 ≤ (a.toNat - 224) * 4096 + (b.toNat - 128) * 64 + (c.toNat - 128) ∧ mayF ((a.toNat - 224) * 4096 + (b.toNat - 128) * 64 + (c.toNat - 128)) = true
              · rw [if_pos hb] at h
                simp only [Option.some.injEq, Prod.mk.injEq] at h
                obtain ⟨rfl, rfl⟩ := h
                obtain ⟨hb, hc, hlo, hmay⟩ := hb
                rw [contF_iff] at hb hc
                refine ⟨hmay, by rw [encF_length, if_neg (by omega), if_neg (by omega), if_pos (by omega)], by simp, ?_⟩
                unfold encF
                rw [if_neg (by omega), if_neg (by omega), if_pos (by omega), byte_eq a _ (by omega), byte_eq b _ (by omega), byte_eq c _ (by omega)]
                rfl
              · rw [if_neg hb] at h; cases h
          · rw [if_neg h4] at h
            match r, h with
            | [], h => cases h
            | [_], h => cases h
            | [_, _], h => cases h
            | b :: c :: d :: r, h =>
              simp only at h
              by_cases hb : contF b = true ∧ contF c = true ∧ contF d = true ∧ 65536 ≤ (a.toNat - 240) * 262144 + (b.toNat - 128) * 4096 + (c.toNat - 128) * 64 + (d.toNat - 128) ∧ (a.toNat - 240) * 262144 + (b.toNat - 128) * 4096 + (c.toNat - 128) * 64 + (d.toNat - 128) ≤ 1114111
              · rw [if_pos hb] at h
                simp only [Option.some.injEq, Prod.mk.injEq] at h
                obtain ⟨rfl, rfl⟩ := h
                obtain ⟨hb, hc, hd, hlo, hhi⟩ := hb
                rw [contF_iff] at hb hc hd
                refine ⟨(mayF_iff _).2 (by omega), by rw [encF_length, if_neg (by omega), if_neg (by omega), if_neg (by omega)], by simp, ?_⟩
                unfold encF
                rw [if_neg (by omega), if_neg (by omega), if_neg (by omega), byte_eq a _ (by omega), byte_eq b _ (by omega), byte_eq c _ (by omega), byte_eq d _ (by omega)]
                rfl
              · rw [if_neg hb] at h; cases h

/-- Whatever begins with a rune's bytes is read as it. -/
theorem decF_of {s : List UInt8} {n : Nat} (hm : mayF n = true) (h : s.take (encF n).length = encF n) : decF s = some (n, (encF n).length) := by
  have e : s = encF n ++ s.drop (encF n).length := by
    have := (List.take_append_drop (encF n).length s).symm
    rw [h] at this
    exact this
  rw [e]
  exact decF_enc n hm _

/-- All runes: or how far they go. -/
def runesGo : Nat → Nat → List Nat → List UInt8 → Option (List Nat) × Nat
  | 0, at_, acc, s => if s = [] then (some acc, at_) else (none, at_)
  | f + 1, at_, acc, s =>
    if s = [] then (some acc, at_)
    else match decF s with
    | none => (none, at_)
    | some (n, k) => runesGo f (at_ + k) (acc ++ [n]) (s.drop k)
/-- A text's runes; or none, and the first place that is wrong. -/
def runesF (s : List UInt8) : Option (List Nat) × Nat := runesGo s.length 0 [] s
def textF (l : List Nat) : List UInt8 := l.flatMap encF

theorem runesGo_nil (f at_ : Nat) (acc : List Nat) : runesGo f at_ acc [] = (some acc, at_) := by cases f <;> rfl
/-- More steps than needed make no difference. -/
theorem runesGo_fuel (f : Nat) : ∀ (g at_ : Nat) (acc : List Nat) (s : List UInt8), s.length ≤ f → s.length ≤ g → runesGo f at_ acc s = runesGo g at_ acc s := by
  induction f with
  | zero =>
    intro g at_ acc s hf _
    have : s = [] := List.length_eq_zero_iff.1 (by omega)
    subst this
    rw [runesGo_nil, runesGo_nil]
  | succ f ih =>
    intro g at_ acc s hf hg
    by_cases hs : s = []
    · subst hs; rw [runesGo_nil, runesGo_nil]
    · cases g with
      | zero => exact absurd (List.length_eq_zero_iff.1 (by omega)) hs
      | succ g =>
        rw [runesGo, runesGo, if_neg hs, if_neg hs]
        cases hd : decF s with
        | none => rfl
        | some p =>
          obtain ⟨n, k⟩ := p
          have hk := decF_some hd
          have hp := encF_pos n
          exact ih g _ _ _ (by simp; omega) (by simp; omega)
theorem runesGo_step {f at_ : Nat} {acc : List Nat} {s : List UInt8} {n k : Nat} (hf : s.length ≤ f) (hd : decF s = some (n, k)) : runesGo f at_ acc s = runesGo f (at_ + k) (acc ++ [n]) (s.drop k) := by
  have hk := decF_some hd
  have hp := encF_pos n
  cases f with
  | zero => have : s = [] := List.length_eq_zero_iff.1 (by omega); subst this; simp [decF] at hd
  | succ f =>
    have hs : s ≠ [] := fun e => by subst e; simp [decF] at hd
    rw [runesGo, if_neg hs, hd]
    exact runesGo_fuel f (f + 1) _ _ _ (by simp; omega) (by simp; omega)
theorem runesGo_stop {f at_ : Nat} {acc : List Nat} {s : List UInt8} (hs : s ≠ []) (hd : decF s = none) : runesGo f at_ acc s = (none, at_) := by
  cases f with
  | zero => rw [runesGo, if_neg hs]
  | succ f => rw [runesGo, if_neg hs, hd]

/-- What a text's runes are. -/
theorem runesGo_some (f : Nat) : ∀ (at_ : Nat) (acc : List Nat) (s : List UInt8) (l : List Nat) (e : Nat), runesGo f at_ acc s = (some l, e) →
    ∃ m, l = acc ++ m ∧ (∀ n, n ∈ m → mayF n = true) ∧ s = textF m ∧ e = at_ + s.length := by
  induction f with
  | zero =>
    intro at_ acc s l e h
    rw [runesGo] at h
    split at h
    · rename_i hs
      simp only [Prod.mk.injEq, Option.some.injEq] at h
      exact ⟨[], by simp [h.1], by simp, by simp [hs, textF], by simp [hs, h.2]⟩
    · simp at h
  | succ f ih =>
    intro at_ acc s l e h
    by_cases hs : s = []
    · subst hs
      rw [runesGo_nil] at h
      simp only [Prod.mk.injEq, Option.some.injEq] at h
      exact ⟨[], by simp [h.1], by simp, rfl, by simp [h.2]⟩
    · rw [runesGo, if_neg hs] at h
      cases hd : decF s with
      | none => rw [hd] at h; simp at h
      | some p =>
        obtain ⟨n, k⟩ := p
        rw [hd] at h
        obtain ⟨hm, hk, hle, ht⟩ := decF_some hd
        obtain ⟨m, h1, h2, h3, h4⟩ := ih _ _ _ _ _ h
        refine ⟨n :: m, by rw [h1]; simp, fun x hx => ?_, ?_, ?_⟩
        · rcases List.mem_cons.1 hx with rfl | hx
          · exact hm
          · exact h2 x hx
        · have := (List.take_append_drop k s).symm
          rw [ht, h3] at this
          exact this
        · rw [h4]; simp; omega

/-- A text is read as its runes. -/
theorem runesGo_text (m : List Nat) : ∀ (f at_ : Nat) (acc : List Nat), (∀ n, n ∈ m → mayF n = true) → (textF m).length ≤ f → runesGo f at_ acc (textF m) = (some (acc ++ m), at_ + (textF m).length) := by
  induction m with
  | nil => intro f at_ acc _ _; simp [textF, runesGo_nil]
  | cons n m ih =>
    intro f at_ acc hm hf
    have e : textF (n :: m) = encF n ++ textF m := rfl
    rw [e] at hf ⊢
    rw [runesGo_step hf (decF_enc n (hm n (by simp)) (textF m)), List.drop_left, ih f _ _ (fun x hx => hm x (by simp [hx])) (by simp at hf; omega)]
    simp
    omega

theorem runesF_some {s : List UInt8} {l : List Nat} {e : Nat} (h : runesF s = (some l, e)) : (∀ n, n ∈ l → mayF n = true) ∧ s = textF l ∧ e = s.length := by
  obtain ⟨m, h1, h2, h3, h4⟩ := runesGo_some _ _ _ _ _ _ h
  simp only [List.nil_append] at h1
  subst h1
  exact ⟨h2, h3, by omega⟩
theorem runesF_text {l : List Nat} (h : ∀ n, n ∈ l → mayF n = true) : runesF (textF l) = (some l, (textF l).length) := by
  unfold runesF
  rw [runesGo_text l _ 0 [] h (Nat.le_refl _)]
  simp
theorem textF_append (l m : List Nat) : textF (l ++ m) = textF l ++ textF m := by simp [textF]
/-- No two lists of runes have one text. -/
theorem textF_inj {l m : List Nat} (hl : ∀ n, n ∈ l → mayF n = true) (hm : ∀ n, n ∈ m → mayF n = true) (h : textF l = textF m) : l = m := by
  have h1 := runesF_text hl
  have h2 := runesF_text hm
  rw [h, h2] at h1
  simpa using h1.symm

/-- The first place that is wrong: ahead of it stands a text, and no rune's bytes stand there. -/
theorem runesGo_none (f : Nat) : ∀ (at_ : Nat) (acc : List Nat) (s : List UInt8) (e : Nat), s.length ≤ f → runesGo f at_ acc s = (none, e) →
    ∃ m, (∀ n, n ∈ m → mayF n = true) ∧ e = at_ + (textF m).length ∧ s.take (textF m).length = textF m ∧ (textF m).length < s.length ∧ decF (s.drop (textF m).length) = none := by
  induction f with
  | zero =>
    intro at_ acc s e hf h
    have : s = [] := List.length_eq_zero_iff.1 (by omega)
    subst this
    rw [runesGo_nil] at h
    simp at h
  | succ f ih =>
    intro at_ acc s e hf h
    by_cases hs : s = []
    · subst hs; rw [runesGo_nil] at h; simp at h
    · rw [runesGo, if_neg hs] at h
      cases hd : decF s with
      | none =>
        rw [hd] at h
        simp only [Prod.mk.injEq, true_and] at h
        refine ⟨[], by simp, by simp [textF, h], by simp [textF], ?_, by simpa [textF] using hd⟩
        have := List.length_pos_iff.2 hs
        simpa [textF] using this
      | some p =>
        obtain ⟨n, k⟩ := p
        rw [hd] at h
        obtain ⟨hm, hk, hle, ht⟩ := decF_some hd
        have hp := encF_pos n
        obtain ⟨m, h1, h2, h3, h4, h5⟩ := ih _ _ _ _ (by simp; omega) h
        have e1 : textF (n :: m) = encF n ++ textF m := rfl
        have el : (textF (n :: m)).length = k + (textF m).length := by rw [e1, List.length_append, hk]
        refine ⟨n :: m, fun x hx => ?_, by rw [el]; omega, ?_, by rw [el]; simp at h4; omega, ?_⟩
        · rcases List.mem_cons.1 hx with rfl | hx
          · exact hm
          · exact h1 x hx
        · rw [el, List.take_add, ht, h3, e1]
        · rw [el, ← List.drop_drop]; exact h5
#print axioms runesGo_none
#print axioms textF_inj
end Go.Proofs.YtfoalaoanpbmeaaDoor
