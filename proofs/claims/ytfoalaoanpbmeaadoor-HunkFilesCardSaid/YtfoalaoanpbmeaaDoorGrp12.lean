/-
  Merged: PathMath, TreeMath, Files.
-/
import Derived.Test.YtfoalaoanpbmeaaDoorUtfMath
import Derived.Lib.AtoiAll
import Derived.Lib.ItoaNum
import Derived.Lib.Bytealg
import Derived.Test.YtfoalaoanpbmeaaDoorGrp6
namespace Go.Proofs.YtfoalaoanpbmeaaDoor

/-- The pieces so far, and where the piece under way begins. -/
def pcS (s : List UInt8) : Nat → List (List UInt8) × Nat
  | 0 => ([], 0)
  | i + 1 => if s.getD i 0 = 47 then ((pcS s i).1 ++ [(s.drop (pcS s i).2).take (i - (pcS s i).2)], i + 1) else pcS s i
def pcs (s : List UInt8) : List (List UInt8) := (pcS s s.length).1 ++ [s.drop (pcS s s.length).2]

theorem pcS_le (s : List UInt8) : ∀ i, (pcS s i).2 ≤ i
  | 0 => Nat.le_refl _
  | i + 1 => by
    unfold pcS
    split
    · exact Nat.le_refl _
    · have := pcS_le s i; omega
theorem pcS_at {s : List UInt8} {i : Nat} (h : s.getD i 0 = 47) : pcS s (i + 1) = ((pcS s i).1 ++ [(s.drop (pcS s i).2).take (i - (pcS s i).2)], i + 1) := by
  rw [pcS, if_pos h]
theorem pcS_not {s : List UInt8} {i : Nat} (h : s.getD i 0 ≠ 47) : pcS s (i + 1) = pcS s i := by rw [pcS, if_neg h]
theorem pcS_skip {s : List UInt8} {p : Nat} : ∀ k, (∀ j, j < k → s.getD (p + j) 0 ≠ 47) → pcS s (p + k) = pcS s p
  | 0, _ => rfl
  | k + 1, h => by
    rw [← Nat.add_assoc, pcS_not (h k (by omega))]
    exact pcS_skip k fun j hj => h j (by omega)
theorem pcS_length (s : List UInt8) : ∀ i, (pcS s i).1.length ≤ i
  | 0 => Nat.le_refl _
  | i + 1 => by
    unfold pcS
    split
    · have := pcS_length s i; simp; omega
    · have := pcS_length s i; omega
theorem pcs_length (s : List UInt8) : (pcs s).length ≤ s.length + 1 := by
  have := pcS_length s s.length
  simp [pcs]; omega

theorem ofNat_ne47 (n : Nat) (h : n < 256) (h2 : n ≠ 47) : UInt8.ofNat n ≠ 47 := by
  intro e
  have : (UInt8.ofNat n).toNat = (47 : UInt8).toNat := by rw [e]
  rw [ofNat_toNat n h] at this
  exact h2 this

/-- Of a rune that is no slash no byte is one. -/
theorem enc_no47 {n : Nat} (hm : mayF n = true) (h : n ≠ 47) : ∀ b, b ∈ encF n → b ≠ 47 := by
  have hm := (mayF_iff n).1 hm
  intro b hb
  unfold encF at hb
  split at hb
  · simp only [List.mem_cons, List.not_mem_nil, or_false] at hb; subst hb; exact ofNat_ne47 _ (by omega) (by omega)
  · split at hb
    · simp only [List.mem_cons, List.not_mem_nil, or_false] at hb
      rcases hb with rfl | rfl
      · exact ofNat_ne47 _ (by omega) (by omega)
      · exact ofNat_ne47 _ (by omega) (by omega)
    · split at hb
      · simp only [List.mem_cons, List.not_mem_nil, or_false] at hb
        rcases hb with rfl | rfl | rfl
        · exact ofNat_ne47 _ (by omega) (by omega)
        · exact ofNat_ne47 _ (by omega) (by omega)
        · exact ofNat_ne47 _ (by omega) (by omega)
      · simp only [List.mem_cons, List.not_mem_nil, or_false] at hb
        rcases hb with rfl | rfl | rfl | rfl
        · exact ofNat_ne47 _ (by omega) (by omega)
        · exact ofNat_ne47 _ (by omega) (by omega)
        · exact ofNat_ne47 _ (by omega) (by omega)
        · exact ofNat_ne47 _ (by omega) (by omega)

/-- The pieces behind a rune. -/
theorem pcS_rune {s : List UInt8} {p n k : Nat} (hd : decF (s.drop p) = some (n, k)) :
    (n = 47 → k = 1 ∧ s.getD p 0 = 47) ∧ (n ≠ 47 → pcS s (p + k) = pcS s p) := by
  obtain ⟨hm, hk, hkl, ht⟩ := decF_some hd
  constructor
  · rintro rfl
    have he : encF 47 = [47] := by decide
    rw [he] at hk ht
    simp at hk
    subst hk
    refine ⟨rfl, ?_⟩
    have h0 : ((s.drop p).take 1)[0]? = some 47 := by rw [ht]; rfl
    rw [List.getElem?_take_of_lt (by omega), List.getElem?_drop] at h0
    rw [List.getD_eq_getElem?_getD, show p = p + 0 from rfl, h0]; rfl
  · intro hn
    apply pcS_skip
    intro j hj
    have h1 : ((s.drop p).take k)[j]? = (encF n)[j]? := by rw [ht]
    rw [List.getElem?_take_of_lt hj, List.getElem?_drop] at h1
    have hj' : j < (encF n).length := by omega
    rw [List.getD_eq_getElem?_getD, h1, List.getElem?_eq_getElem hj']
    exact enc_no47 hm hn _ (List.getElem_mem hj')

/-! Which may be. -/
def seenF (n : Nat) : Bool := decide (32 ≤ n) && decide (n ≠ 127)
def textOk (l : List UInt8) : Bool := match runesF l with | (some _, _) => true | (none, _) => false
def runesOk (l : List UInt8) : Bool := match runesF l with | (some L, _) => L.all seenF | (none, _) => false
def badPart (p : List UInt8) : Bool := p == [] || p == [46] || p == [46, 46]
def goodParts (l : List (List UInt8)) : Bool := l.all fun p => !badPart p
def pathF (s : List UInt8) : Bool := decide (1 ≤ s.length) && decide (s.length ≤ 64) && runesOk s && goodParts (pcs s)
def partsF (s : List UInt8) : List (List UInt8) := if pathF s = true then pcs s else []
def authorF (s : List UInt8) : Bool := decide (1 ≤ s.length) && decide (s.length ≤ 32) && runesOk s
def noteF (s : List UInt8) : Bool := decide (s.length ≤ 256) && textOk s
def bytesF (s : List UInt8) : Nat := if 4096 < s.length then 2 else if textOk s = true then 0 else 5
def nameC (n : Nat) : Bool := (decide (97 ≤ n) && decide (n ≤ 122)) || (decide (65 ≤ n) && decide (n ≤ 90)) || (decide (48 ≤ n) && decide (n ≤ 57)) || n == 45 || n == 95 || n == 46
def nameF (s : List UInt8) : Bool := decide (1 ≤ s.length) && decide (s.length ≤ 32) && s.all (fun c => nameC c.toNat) && s.getD 0 0 != 46 && s.getD 0 0 != 45 && s != [72, 69, 65, 68]

theorem textOk_some {l : List UInt8} {L : List Nat} {e : Nat} (h : runesF l = (some L, e)) : textOk l = true := by unfold textOk; rw [h]
theorem textOk_none {l : List UInt8} {e : Nat} (h : runesF l = (none, e)) : textOk l = false := by unfold textOk; rw [h]
theorem runesOk_some {l : List UInt8} {L : List Nat} {e : Nat} (h : runesF l = (some L, e)) : runesOk l = L.all seenF := by unfold runesOk; rw [h]
theorem runesOk_none {l : List UInt8} {e : Nat} (h : runesF l = (none, e)) : runesOk l = false := by unfold runesOk; rw [h]
theorem runesOk_text {l : List UInt8} (h : runesOk l = true) : textOk l = true := by
  unfold runesOk at h; unfold textOk
  split at h
  · rfl
  · cases h

/-! Which clash. -/
def leadsF (a b : List UInt8) : Bool := (a ++ [47]).isPrefixOf b
def clashF (a b : List UInt8) : Bool := a == b || leadsF a b || leadsF b a
def clashesF (p : List UInt8) (l : List (List UInt8)) : Bool := l.any (clashF p)
theorem clashF_comm (a b : List UInt8) : clashF a b = clashF b a := by
  unfold clashF
  rw [Bool.or_assoc, Bool.or_assoc, Bool.or_comm (leadsF a b), show (a == b) = (b == a) from by rw [Bool.beq_comm]]
theorem leadsF_iff (a b : List UInt8) : leadsF a b = true ↔ ∃ r, b = a ++ 47 :: r := by
  unfold leadsF
  rw [List.isPrefixOf_iff_prefix]
  constructor
  · rintro ⟨r, h⟩; exact ⟨r, by rw [← h]; simp⟩
  · rintro ⟨r, h⟩; exact ⟨r, by rw [h]; simp⟩
theorem clashF_iff (a b : List UInt8) : clashF a b = true ↔ a = b ∨ (∃ r, b = a ++ 47 :: r) ∨ ∃ r, a = b ++ 47 :: r := by
  unfold clashF
  rw [Bool.or_eq_true, Bool.or_eq_true, leadsF_iff, leadsF_iff, beq_iff_eq, or_assoc]
theorem leadsF_code (a b : List UInt8) : leadsF a b = (decide (a.length < b.length) && (b.getD a.length 0 == 47) && (b.take a.length == a)) := by
  rw [Bool.eq_iff_iff, leadsF_iff]
  simp only [Bool.and_eq_true, decide_eq_true_eq, beq_iff_eq]
  constructor
  · rintro ⟨r, rfl⟩
    simp
  · rintro ⟨⟨h1, h2⟩, h3⟩
    refine ⟨b.drop (a.length + 1), ?_⟩
    have h4 : b.drop a.length = 47 :: b.drop (a.length + 1) := by
      rw [List.drop_eq_getElem_cons h1]
      congr 1
      rw [← h2, List.getD_eq_getElem?_getD, List.getElem?_eq_getElem h1]; rfl
    rw [← h4]
    conv => lhs; rw [← List.take_append_drop a.length b, h3]
theorem clashesF_cons (p t : List UInt8) (l : List (List UInt8)) : clashesF p (t :: l) = (clashF p t || clashesF p l) := by simp [clashesF]
theorem clashesF_append (p : List UInt8) (l m : List (List UInt8)) : clashesF p (l ++ m) = (clashesF p l || clashesF p m) := by simp [clashesF]

/-! The first part; numbers. -/
def hdF (t : List UInt8) : List UInt8 := t.takeWhile (· != 47)
theorem hd_le (t : List UInt8) : (hdF t).length ≤ t.length := by
  have := congrArg List.length (List.takeWhile_append_dropWhile (p := (· != (47 : UInt8))) (l := t))
  rw [List.length_append] at this
  unfold hdF; omega
theorem hd_take (t : List UInt8) : t.take (hdF t).length = hdF t := by
  have h := List.takeWhile_append_dropWhile (p := (· != (47 : UInt8))) (l := t)
  conv => lhs; arg 2; rw [← h]
  exact List.take_left' rfl
theorem hd_no47 (t : List UInt8) : ∀ c, c ∈ hdF t → c ≠ 47 := by
  induction t with
  | nil => intro c hc; cases hc
  | cons b l ih =>
    intro c hc
    unfold hdF at hc
    rw [List.takeWhile_cons] at hc
    split at hc
    · rename_i hb
      rcases List.mem_cons.1 hc with rfl | hc
      · simpa using hb
      · exact ih c hc
    · cases hc
theorem hd_rest (t : List UInt8) : t.drop (hdF t).length = [] ∨ ∃ r, t.drop (hdF t).length = 47 :: r := by
  induction t with
  | nil => exact .inl rfl
  | cons b l ih =>
    unfold hdF
    rw [List.takeWhile_cons]
    by_cases hb : (b != 47) = true
    · rw [if_pos hb]; exact ih
    · rw [if_neg hb]; exact .inr ⟨l, by simp at hb; subst hb; rfl⟩
theorem hd_of {d b : List UInt8} (hd : ∀ c, c ∈ d → c ≠ 47) (hb : b = [] ∨ ∃ r, b = 47 :: r) : hdF (d ++ b) = d := by
  induction d with
  | nil => rcases hb with rfl | ⟨r, rfl⟩ <;> rfl
  | cons c d ih =>
    unfold hdF
    rw [List.cons_append, List.takeWhile_cons, if_pos (by simpa using hd c (List.mem_cons_self ..))]
    congr 1
    exact ih fun x hx => hd x (List.mem_cons_of_mem _ hx)
theorem index_hd (t : List UInt8) : Lib.indexByte t 47 = if (hdF t).length = t.length then -1 else ((hdF t).length : Int) := by
  induction t with
  | nil => rfl
  | cons b l ih =>
    unfold Lib.indexByte
    by_cases hb : b = 47
    · subst hb; rfl
    · have h1 : (b == 47) = false := by simpa using hb
      have h2 : hdF (b :: l) = b :: hdF l := by unfold hdF; rw [List.takeWhile_cons, if_pos (by simpa using hb)]
      have hle := hd_le l
      simp only [h1, Bool.false_eq_true, if_false]
      rw [ih, h2, List.length_cons, List.length_cons]
      by_cases he : (hdF l).length = l.length
      · rw [if_pos he, if_pos (show (hdF l).length + 1 = l.length + 1 by omega)]; rfl
      · rw [if_neg he, if_neg (show ¬ (hdF l).length + 1 = l.length + 1 by omega), if_neg (by simp)]
        simp

theorem dec_digit : ∀ (n : Nat) (c : UInt8), c ∈ Lib.decDigits n → 48 ≤ c.toNat ∧ c.toNat ≤ 57 := by
  intro n
  induction n using Nat.strongRecOn with
  | ind n ih =>
    intro c hc
    rw [Lib.decDigits] at hc
    split at hc
    · simp only [List.mem_cons, List.not_mem_nil, or_false] at hc; subst hc; rw [ofNat_toNat _ (by omega)]; omega
    · rcases List.mem_append.1 hc with hc | hc
      · exact ih (n / 10) (by omega) c hc
      · simp only [List.mem_cons, List.not_mem_nil, or_false] at hc; subst hc; rw [ofNat_toNat _ (by omega)]; omega
theorem dec_no47 (n : Nat) : ∀ c, c ∈ Lib.decDigits n → c ≠ 47 := fun c hc e => by
  have := dec_digit n c hc
  rw [e] at this
  exact absurd this.1 (by decide)
theorem dec_ne_nil (n : Nat) : Lib.decDigits n ≠ [] := by
  rw [Lib.decDigits]; split <;> simp

theorem parse_append (l m : List UInt8) : ∀ acc a, Lib.parseUint10 acc l = .ok a → Lib.parseUint10 acc (l ++ m) = Lib.parseUint10 a m := by
  induction l with
  | nil => intro acc a h; simp only [Lib.parseUint10] at h; injection h with h; rw [h]; rfl
  | cons c l ih =>
    intro acc a h
    rw [List.cons_append]
    simp only [Lib.parseUint10] at h ⊢
    split at h
    · rename_i h1
      rw [if_pos h1]
      split at h
      · cases h
      · rename_i h2
        rw [if_neg h2]
        split at h
        · cases h
        · rename_i h3
          rw [if_neg h3]
          exact ih _ _ h
    · cases h
theorem parse_dec (u : Nat) : u < 18446744073709551616 → Lib.parseUint10 0 (Lib.decDigits u) = .ok u := by
  induction u using Nat.strongRecOn with
  | ind u ih =>
    intro hu
    rw [Lib.decDigits]
    split
    · rename_i h
      simp only [Lib.parseUint10]
      rw [ofNat_toNat _ (by omega), if_pos (by omega), if_neg (by omega), if_neg (by omega)]
      congr 1; omega
    · rename_i h
      rw [parse_append _ _ _ _ (ih (u / 10) (by omega) (by omega))]
      simp only [Lib.parseUint10]
      rw [ofNat_toNat _ (by omega), if_pos (by omega), if_neg (by omega), if_neg (by omega)]
      congr 1; omega
theorem dec_inj {n m : Nat} (hn : n < 18446744073709551616) (hm : m < 18446744073709551616) (h : Lib.decDigits n = Lib.decDigits m) : n = m := by
  have h1 := parse_dec n hn
  rw [h, parse_dec m hm] at h1
  injection h1 with h1
  exact h1.symm
theorem atoi_dec (n : Nat) (hn : n < 9223372036854775808) : Lib.atoiAll (Lib.decDigits n) = .ok (n : Int) := by
  have hp := parse_dec n (by omega)
  have hd := dec_digit n
  cases hl : Lib.decDigits n with
  | nil => exact absurd hl (dec_ne_nil n)
  | cons c r =>
    rw [hl] at hp hd
    have hc := hd c (List.mem_cons_self ..)
    unfold Lib.atoiAll
    simp only []
    rw [if_neg (by omega)]
    unfold Lib.parseMag
    rw [if_neg (by simp), hp]
    simp only []
    rw [if_neg (by omega), if_neg (by omega), if_neg (by omega)]

/-! A path with a number. -/
def numF (s : List UInt8) (n : Nat) : List UInt8 := hdF s ++ 126 :: (Lib.decDigits n ++ s.drop (hdF s).length)
def startF (s : List UInt8) : List UInt8 := hdF s ++ [126]
/-- The number behind a start in a path's first part, or 0. -/
def nbF (t start : List UInt8) : Int := if Lib.hasPrefix t start = true then (match Lib.atoiAll (hdF (t.drop start.length)) with | .ok v => if Lib.itoa v = hdF (t.drop start.length) then v else 0 | _ => 0) else 0

theorem num_clash {s t : List UInt8} {n : Nat} (h : clashF (numF s n) t = true) : ∃ b, t = startF s ++ (Lib.decDigits n ++ b) ∧ (b = [] ∨ ∃ r, b = 47 :: r) := by
  have hx47 : ∀ c, c ∈ startF s ++ Lib.decDigits n → c ≠ 47 := by
    intro c hc
    rcases List.mem_append.1 hc with hc | hc
    · rcases List.mem_append.1 hc with hc | hc
      · exact hd_no47 s c hc
      · simp at hc; subst hc; decide
    · exact dec_no47 n c hc
  have hnum : numF s n = startF s ++ (Lib.decDigits n ++ s.drop (hdF s).length) := by simp [numF, startF]
  rw [hnum] at h
  rcases (clashF_iff _ _).1 h with h | ⟨r, h⟩ | ⟨r, h⟩
  · exact ⟨_, h.symm, hd_rest s⟩
  · refine ⟨s.drop (hdF s).length ++ 47 :: r, by rw [h]; simp, ?_⟩
    rcases hd_rest s with h1 | ⟨q, h1⟩
    · exact .inr ⟨r, by rw [h1]; rfl⟩
    · exact .inr ⟨q ++ 47 :: r, by rw [h1]; rfl⟩
  · -- t ++ 47 :: r = x ++ b
    rw [← List.append_assoc] at h
    generalize hx : startF s ++ Lib.decDigits n = x at h hx47
    have hb := hd_rest s
    generalize s.drop (hdF s).length = b at h hb
    have key : ∃ b', t = x ++ b' ∧ (b' = [] ∨ ∃ r, b' = 47 :: r) := by
      rcases List.append_eq_append_iff.1 h with ⟨c, h1, h2⟩ | ⟨c, h1, h2⟩
      · -- t = x ++ c, b = c ++ 47 :: r
        refine ⟨c, h1, ?_⟩
        cases c with
        | nil => exact .inl rfl
        | cons e c =>
          rcases hb with hb | ⟨q, hb⟩
          · rw [hb] at h2; cases h2
          · rw [hb] at h2
            injection h2 with h3 _
            exact .inr ⟨c, by rw [h3]⟩
      · -- x = t ++ c, 47 :: r = c ++ b
        cases c with
        | nil => exact ⟨[], by rw [h1]; simp, .inl rfl⟩
        | cons e c =>
          rw [List.cons_append] at h2
          injection h2 with h3 _
          exact absurd h3.symm (hx47 e (by rw [h1]; simp))
    obtain ⟨b', h1, h2⟩ := key
    exact ⟨b', by rw [h1, ← hx, List.append_assoc], h2⟩
theorem num_clash_nb {s t : List UInt8} {n : Nat} (hn : n < 9223372036854775808) (h : clashF (numF s n) t = true) : nbF t (startF s) = (n : Int) := by
  obtain ⟨b, rfl, hb⟩ := num_clash h
  unfold nbF
  rw [if_pos (by unfold Lib.hasPrefix; rw [List.isPrefixOf_iff_prefix]; exact List.prefix_append _ _), List.drop_left, hd_of (dec_no47 n) hb, atoi_dec n hn]
  have : Lib.itoa (n : Int) = Lib.decDigits n := by unfold Lib.itoa; rw [if_neg (by omega)]; rfl
  simp only []
  rw [if_pos this]
theorem num_one {s t : List UInt8} {n m : Nat} (hn : n < 9223372036854775808) (hm : m < 9223372036854775808) (h1 : clashF (numF s n) t = true) (h2 : clashF (numF s m) t = true) : n = m := by
  have a := num_clash_nb hn h1
  have b := num_clash_nb hm h2
  omega

/-! One of one number more than are taken is free. -/
theorem free_num {α : Type} (R : Nat → α → Bool) (N : Nat) (hR : ∀ t n m, n < N → m < N → R n t = true → R m t = true → n = m) : ∀ (ts : List α) (ns : List Nat), (∀ n, n ∈ ns → n < N) → ns.Nodup → ts.length < ns.length → ∃ n, n ∈ ns ∧ ∀ t, t ∈ ts → R n t = false
  | [], ns, _, _, hl => by
    cases ns with
    | nil => simp at hl
    | cons n ns => exact ⟨n, List.mem_cons_self .., fun t ht => by cases ht⟩
  | t :: ts, ns, hN, hd, hl => by
    by_cases hx : ∃ n0, n0 ∈ ns ∧ R n0 t = true
    · obtain ⟨n0, hm0, h0⟩ := hx
      have hle : (ns.erase n0).length = ns.length - 1 := List.length_erase_of_mem hm0
      obtain ⟨n, hn, hall⟩ := free_num R N hR ts (ns.erase n0) (fun n hn => hN n (List.mem_of_mem_erase hn)) (hd.erase n0) (by simp at hl; omega)
      have hne := ((List.Nodup.mem_erase_iff hd).1 hn)
      refine ⟨n, hne.2, fun x hx => ?_⟩
      rcases List.mem_cons.1 hx with rfl | hx
      · cases hr : R n x with
        | false => rfl
        | true => exact absurd (hR x n n0 (hN n hne.2) (hN n0 hm0) hr h0) hne.1
      · exact hall x hx
    · obtain ⟨n, hn, hall⟩ := free_num R N hR ts ns hN hd (by simp at hl; omega)
      refine ⟨n, hn, fun x hx2 => ?_⟩
      rcases List.mem_cons.1 hx2 with rfl | hx2
      · cases hr : R n x with
        | false => rfl
        | true => exact absurd ⟨n, hn, hr⟩ hx
      · exact hall x hx2

/-- The least number. -/
def FreshN (s : List UInt8) (ts : List (List UInt8)) (n : Nat) : Prop := 1 ≤ n ∧ clashesF (numF s n) ts = false ∧ ∀ m, 1 ≤ m → m < n → clashesF (numF s m) ts = true
theorem FreshN.uniq {s : List UInt8} {ts : List (List UInt8)} {n m : Nat} (h : FreshN s ts n) (k : FreshN s ts m) : n = m := by
  rcases Nat.lt_trichotomy n m with hl | rfl | hl
  · exact absurd (k.2.2 n h.1 hl) (by rw [h.2.1]; simp)
  · rfl
  · exact absurd (h.2.2 m k.1 hl) (by rw [k.2.1]; simp)
theorem least_of {p : Nat → Bool} : ∀ (k : Nat), (∃ n, 1 ≤ n ∧ n ≤ k ∧ p n = false) → ∃ n, 1 ≤ n ∧ n ≤ k ∧ p n = false ∧ ∀ m, 1 ≤ m → m < n → p m = true
  | 0, ⟨n, h1, h2, _⟩ => by omega
  | k + 1, ⟨n, h1, h2, h3⟩ => by
    by_cases h : ∃ n, 1 ≤ n ∧ n ≤ k ∧ p n = false
    · obtain ⟨n, a, b, c, d⟩ := least_of k h
      exact ⟨n, a, by omega, c, d⟩
    · have hn : n = k + 1 := by
        apply Classical.byContradiction
        intro hne
        exact h ⟨n, h1, by omega, h3⟩
      subst hn
      refine ⟨k + 1, h1, Nat.le_refl _, h3, fun m a b => ?_⟩
      cases hp : p m with
      | true => rfl
      | false => exact absurd ⟨m, a, by omega, hp⟩ h
theorem fresh_exists (s : List UInt8) (ts : List (List UInt8)) (hl : ts.length < 1000000000000) : ∃ n, FreshN s ts n ∧ n ≤ ts.length + 1 := by
  have h := free_num (fun n t => clashF (numF s n) t) 9223372036854775808 (fun t n m hn hm a b => num_one hn hm a b) ts (List.range' 1 (ts.length + 1)) (fun n hn => by have := List.mem_range'_1.1 hn; omega) (List.nodup_range' (step := 1)) (by simp)
  obtain ⟨n, hn, hall⟩ := h
  have hn := List.mem_range'_1.1 hn
  obtain ⟨k, h1, h2, h3, h4⟩ := least_of (p := fun n => clashesF (numF s n) ts) (ts.length + 1) ⟨n, hn.1, by omega, by
    unfold clashesF
    rw [List.any_eq_false]
    intro t ht
    simpa using hall t ht⟩
  exact ⟨k, ⟨h1, h3, h4⟩, h2⟩
/-- What Fresh tells. -/
def FreshR (s : List UInt8) (ts : List (List UInt8)) (r : List UInt8) : Prop := (clashesF s ts = false ∧ r = s) ∨ (clashesF s ts = true ∧ ∃ n, FreshN s ts n ∧ r = numF s n)
theorem FreshR.uniq {s : List UInt8} {ts : List (List UInt8)} {r q : List UInt8} (h : FreshR s ts r) (k : FreshR s ts q) : r = q := by
  rcases h with ⟨h1, rfl⟩ | ⟨h1, n, hn, rfl⟩ <;> rcases k with ⟨k1, rfl⟩ | ⟨k1, m, hm, rfl⟩
  · rfl
  · rw [h1] at k1; cases k1
  · rw [h1] at k1; cases k1
  · rw [hn.uniq hm]
theorem FreshR.free {s : List UInt8} {ts : List (List UInt8)} {r : List UInt8} (h : FreshR s ts r) : clashesF r ts = false := by
  rcases h with ⟨h1, rfl⟩ | ⟨h1, n, hn, rfl⟩
  · exact h1
  · exact hn.2.1
theorem num_length (s : List UInt8) (n : Nat) : s.length < (numF s n).length := by
  have := hd_le s
  simp [numF]; omega
theorem FreshR.same {s : List UInt8} {ts : List (List UInt8)} {r : List UInt8} (h : FreshR s ts r) : (r = s ↔ clashesF s ts = false) ∧ s.length ≤ r.length := by
  rcases h with ⟨h1, rfl⟩ | ⟨h1, n, hn, rfl⟩
  · exact ⟨⟨fun _ => h1, fun _ => rfl⟩, Nat.le_refl _⟩
  · have := num_length s n
    refine ⟨⟨fun e => ?_, fun e => ?_⟩, by omega⟩
    · rw [e] at this; omega
    · rw [h1] at e; cases e

/-- Who is used, so far. -/
theorem used_step (s : List UInt8) (done : List (List UInt8)) (t : List UInt8) (m : Nat) (hm : m < 9223372036854775808) :
    clashesF (numF s m) (done ++ [t]) = (clashesF (numF s m) done || (decide (nbF t (startF s) = (m : Int)) && clashF (numF s m) t)) := by
  rw [clashesF_append]
  congr 1
  rw [clashesF_cons]
  cases h : clashF (numF s m) t with
  | false => simp [clashesF]
  | true => rw [num_clash_nb hm h]; simp [clashesF]
end Go.Proofs.YtfoalaoanpbmeaaDoor

namespace Go.Proofs.YtfoalaoanpbmeaaDoor

abbrev FileL := List UInt8 × List UInt8
/-- The paths ahead of a file. -/
def aheadF (fs : List FileL) (i : Nat) : List (List UInt8) := (fs.take i).map (·.1)
/-- What is told at a file. -/
def fileE (fs : List FileL) (i : Nat) : Nat :=
  if pathF (fs.getD i default).1 = false then 10 else if bytesF (fs.getD i default).2 ≠ 0 then bytesF (fs.getD i default).2 else if clashesF (fs.getD i default).1 (aheadF fs i) = true then 11 else 0
def treeF (fs : List FileL) : Nat := if 64 < fs.length then 3 else (((List.range fs.length).map (fileE fs)).find? (· != 0)).getD 0

theorem find_at {l : List Nat} {p : Nat → Bool} : ∀ {i : Nat}, (h : i < l.length) → (∀ j, (hj : j < i) → p (l[j]'(by omega)) = false) → p l[i] = true → l.find? p = some l[i] := by
  induction l with
  | nil => intro i h; simp at h
  | cons a l ih =>
    intro i h h1 h2
    cases i with
    | zero => rw [List.find?_cons]; simp at h2 ⊢; rw [h2]
    | succ i =>
      have h0 := h1 0 (by omega)
      simp at h0
      rw [List.find?_cons, h0]
      simp only [List.getElem_cons_succ] at h2 ⊢
      exact ih (by simpa using h) (fun j hj => by have := h1 (j + 1) (by omega); simpa using this) h2
theorem tree_stop {fs : List FileL} {i e : Nat} (h64 : fs.length ≤ 64) (hi : i < fs.length) (hu : ∀ j, j < i → fileE fs j = 0) (he : fileE fs i = e) (h0 : e ≠ 0) : treeF fs = e := by
  unfold treeF
  rw [if_neg (by omega), find_at (i := i) (by simpa using hi) (fun j hj => by simp [hu j hj]) (by simp [he, h0])]
  simp [he]
theorem tree_done {fs : List FileL} (h64 : fs.length ≤ 64) (hu : ∀ j, j < fs.length → fileE fs j = 0) : treeF fs = 0 := by
  unfold treeF
  rw [if_neg (by omega), List.find?_eq_none.2]
  · rfl
  · intro x hx
    obtain ⟨j, hj, rfl⟩ := List.mem_map.1 hx
    simp [hu j (List.mem_range.1 hj)]
theorem tree_full {fs : List FileL} (h : 64 < fs.length) : treeF fs = 3 := by unfold treeF; rw [if_pos h]

theorem fileE_name {fs : List FileL} {i : Nat} (h : pathF (fs.getD i default).1 = false) : fileE fs i = 10 := by unfold fileE; rw [if_pos h]
theorem fileE_bytes {fs : List FileL} {i e : Nat} (h : pathF (fs.getD i default).1 = true) (he : bytesF (fs.getD i default).2 = e) (h0 : e ≠ 0) : fileE fs i = e := by
  unfold fileE; rw [if_neg (by rw [h]; simp), if_pos (by rw [he]; exact h0), he]
theorem fileE_there {fs : List FileL} {i : Nat} (h : pathF (fs.getD i default).1 = true) (he : bytesF (fs.getD i default).2 = 0) (hc : clashesF (fs.getD i default).1 (aheadF fs i) = true) : fileE fs i = 11 := by
  unfold fileE; rw [if_neg (by rw [h]; simp), if_neg (by rw [he]; simp), if_pos hc]
theorem fileE_ok {fs : List FileL} {i : Nat} (h : pathF (fs.getD i default).1 = true) (he : bytesF (fs.getD i default).2 = 0) (hc : clashesF (fs.getD i default).1 (aheadF fs i) = false) : fileE fs i = 0 := by
  unfold fileE; rw [if_neg (by rw [h]; simp), if_neg (by rw [he]; simp), if_neg (by rw [hc]; simp)]

/-- Files that are a tree. -/
def TreeOk (fs : List FileL) : Prop := fs.length ≤ 64 ∧ (∀ i, i < fs.length → pathF (fs.getD i default).1 = true ∧ bytesF (fs.getD i default).2 = 0) ∧ ∀ i j, i < fs.length → j < fs.length → i ≠ j → clashF (fs.getD i default).1 (fs.getD j default).1 = false

theorem ahead_none {fs : List FileL} {i : Nat} (hi : i ≤ fs.length) : clashesF (fs.getD i default).1 (aheadF fs i) = false ↔ ∀ j, j < i → clashF (fs.getD i default).1 (fs.getD j default).1 = false := by
  unfold clashesF aheadF
  rw [List.any_eq_false]
  constructor
  · intro h j hj
    have := h (fs.getD j default).1 (List.mem_map.2 ⟨_, by
      rw [List.getD_eq_getElem?_getD, List.getElem?_eq_getElem (by omega)]
      exact List.mem_take_iff_getElem.2 ⟨j, by omega, rfl⟩, rfl⟩)
    simpa using this
  · intro h x hx
    obtain ⟨y, hy, rfl⟩ := List.mem_map.1 hx
    obtain ⟨j, hj, rfl⟩ := List.mem_take_iff_getElem.1 hy
    have := h j (by omega)
    rw [List.getD_eq_getElem?_getD (i := j), List.getElem?_eq_getElem (by omega)] at this
    simpa using this
theorem fileE_zero {fs : List FileL} {i : Nat} : fileE fs i = 0 ↔ pathF (fs.getD i default).1 = true ∧ bytesF (fs.getD i default).2 = 0 ∧ clashesF (fs.getD i default).1 (aheadF fs i) = false := by
  constructor
  · intro h
    unfold fileE at h
    split at h
    · cases h
    · rename_i h1
      split at h
      · rename_i h2; exact absurd h h2
      · rename_i h2
        split at h
        · cases h
        · rename_i h3
          exact ⟨by simpa using h1, by simpa using h2, by simpa using h3⟩
  · rintro ⟨h1, h2, h3⟩
    exact fileE_ok h1 h2 h3
theorem tree_iff (fs : List FileL) : treeF fs = 0 ↔ TreeOk fs := by
  constructor
  · intro h
    rcases Nat.lt_or_ge 64 fs.length with hl | hl
    · rw [tree_full hl] at h; cases h
    · have hall : ∀ i, i < fs.length → fileE fs i = 0 := by
        intro i
        induction i using Nat.strongRecOn with
        | ind i ih =>
          intro hi
          apply Classical.byContradiction
          intro hne
          exact hne (tree_stop hl hi (fun j hj => ih j hj (by omega)) rfl hne ▸ h)
      refine ⟨hl, fun i hi => ⟨(fileE_zero.1 (hall i hi)).1, (fileE_zero.1 (hall i hi)).2.1⟩, fun i j hi hj hne => ?_⟩
      rcases Nat.lt_or_ge i j with hij | hij
      · rw [clashF_comm]
        exact (ahead_none (by omega)).1 (fileE_zero.1 (hall j hj)).2.2 i hij
      · exact (ahead_none (by omega)).1 (fileE_zero.1 (hall i hi)).2.2 j (by omega)
  · rintro ⟨h1, h2, h3⟩
    refine tree_done h1 fun i hi => fileE_zero.2 ⟨(h2 i hi).1, (h2 i hi).2, (ahead_none (by omega)).2 fun j hj => h3 i j hi (by omega) (by omega)⟩

/-- Files taken from a tree's, each at most once. -/
theorem TreeOk.some {fs gs : List FileL} (h : TreeOk fs) (f : Nat → Nat) (hl : gs.length ≤ fs.length) (hf : ∀ i, i < gs.length → f i < fs.length) (hi : ∀ i j, i < gs.length → j < gs.length → f i = f j → i = j) (he : ∀ i, i < gs.length → gs.getD i default = fs.getD (f i) default) : TreeOk gs := by
  obtain ⟨h1, h2, h3⟩ := h
  refine ⟨by omega, fun i hi' => ?_, fun i j hi' hj' hne => ?_⟩
  · rw [he i hi']; exact h2 _ (hf i hi')
  · rw [he i hi', he j hj']
    exact h3 _ _ (hf i hi') (hf j hj') fun e => hne (hi i j hi' hj' e)
theorem TreeOk.less {fs : List FileL} (h : TreeOk fs) (a : Nat) (ha : a < fs.length) : TreeOk (fs.take a ++ fs.drop (a + 1)) := by
  have hlen : (fs.take a ++ fs.drop (a + 1)).length = fs.length - 1 := by simp; omega
  refine h.some (fun i => if i < a then i else i + 1) (by omega) (fun i hi => by split <;> omega) (fun i j hi hj e => by split at e <;> split at e <;> omega) fun i hi => ?_
  rw [List.getD_eq_getElem?_getD, List.getD_eq_getElem?_getD]
  split
  · rw [List.getElem?_append_left (by simp; omega), List.getElem?_take_of_lt (by omega)]
  · rw [List.getElem?_append_right (by simp; omega), List.getElem?_drop]
    congr 2
    simp; omega
theorem TreeOk.turned {fs : List FileL} (h : TreeOk fs) (a b : Nat) (ha : a < fs.length) (hb : b < fs.length) : TreeOk ((fs.set a (fs.getD b default)).set b (fs.getD a default)) := by
  refine h.some (fun i => if i = b then a else if i = a then b else i) (by simp) (fun i hi => by simp at hi; split; omega; split <;> omega) (fun i j hi hj e => by
    split at e
    · split at e
      · omega
      · split at e <;> omega
    · split at e
      · split at e
        · omega
        · split at e <;> omega
      · split at e
        · omega
        · split at e <;> omega) fun i hi => ?_
  simp at hi
  rw [List.getD_eq_getElem?_getD, List.getElem?_set, List.getElem?_set]
  by_cases h1 : b = i
  · subst h1; rw [if_pos rfl, if_pos (by simpa using hi), if_pos rfl]; rfl
  · rw [if_neg h1, if_neg (Ne.symm h1)]
    by_cases h2 : a = i
    · subst h2; rw [if_pos rfl, if_pos hi, if_pos rfl]; rfl
    · rw [if_neg h2, if_neg (Ne.symm h2), List.getD_eq_getElem?_getD]
end Go.Proofs.YtfoalaoanpbmeaaDoor

namespace Go.Proofs.YtfoalaoanpbmeaaDoor
open Go.RowKit

/-- The cells of files. -/
def fcells (L : List FileL) : List Value := L.flatMap fun f => [St f.1, St f.2]
theorem fcells_length (L : List FileL) : (fcells L).length = L.length * 2 := by
  induction L with
  | nil => rfl
  | cons f L ih => unfold fcells at ih ⊢; rw [List.flatMap_cons, List.length_append, ih]; simp; omega
theorem fcells_append (L M : List FileL) : fcells (L ++ M) = fcells L ++ fcells M := by simp [fcells]
theorem fcells_one (L : List FileL) : ∀ v ∈ fcells L, v.oneCell' = true := by
  intro v hv
  obtain ⟨f, _, h⟩ := List.mem_flatMap.1 hv
  simp at h
  rcases h with rfl | rfl <;> rfl
theorem fcells_at {L : List FileL} : ∀ {j : Nat}, j < L.length → (fcells L)[j * 2]? = some (St (L.getD j default).1) ∧ (fcells L)[j * 2 + 1]? = some (St (L.getD j default).2) := by
  induction L with
  | nil => intro j hj; simp at hj
  | cons f L ih =>
    intro j hj
    have e : fcells (f :: L) = St f.1 :: St f.2 :: fcells L := by simp [fcells]
    cases j with
    | zero => rw [e]; exact ⟨rfl, rfl⟩
    | succ j =>
      have h := ih (j := j) (by simpa using hj)
      rw [e, show (j + 1) * 2 = j * 2 + 1 + 1 from by omega]
      simp only [List.getElem?_cons_succ, List.getD_cons_succ]
      exact h

/-- A slice value reads as these files. -/
def FilesAt (w : World) (a : Option Addr) (n c : Nat) (L : List FileL) : Prop :=
  L.length = n ∧ n ≤ c ∧ c ≤ 9223372036854775807 ∧ ((n = 0 ∧ c = 0) ∨ ∃ b off, a = some ⟨b, off, none⟩ ∧ ∀ j, j < n → w.cell? ⟨b, off + j * 2, none⟩ = some (.string (strB (L.getD j default).1)) ∧ w.cell? ⟨b, off + j * 2 + 1, none⟩ = some (.string (strB (L.getD j default).2)))
section
variable {w w' : World} {a : Option Addr} {n c : Nat} {L : List FileL}
theorem FilesAt.nil : FilesAt w none 0 0 [] := ⟨rfl, Nat.le_refl _, by omega, .inl ⟨rfl, rfl⟩⟩
theorem FilesAt.below (h : FilesAt w a n c L) (hb : Below w.heap.size w w') : FilesAt w' a n c L := by
  obtain ⟨h1, h2, h3, h4⟩ := h
  refine ⟨h1, h2, h3, ?_⟩
  rcases h4 with h4 | ⟨b, off, ha, hc⟩
  · exact .inl h4
  · exact .inr ⟨b, off, ha, fun j hj => ⟨(hb.cell (World.block_lt_of_cell? _ _ (hc j hj).1)).trans (hc j hj).1, (hb.cell (World.block_lt_of_cell? _ _ (hc j hj).2)).trans (hc j hj).2⟩⟩
theorem FilesAt.some_ (h : FilesAt w a n c L) (hn : 0 < n) : ∃ b off, a = some ⟨b, off, none⟩ := by
  rcases h.2.2.2 with ⟨h0, _⟩ | ⟨b, off, ha, _⟩
  · omega
  · exact ⟨b, off, ha⟩
theorem FilesAt.cell {b off : Nat} (h : FilesAt w (some ⟨b, off, none⟩) n c L) (j : Nat) (hj : j < n) : w.cell? ⟨b, off + j * 2, none⟩ = some (.string (strB (L.getD j default).1)) ∧ w.cell? ⟨b, off + j * 2 + 1, none⟩ = some (.string (strB (L.getD j default).2)) := by
  rcases h.2.2.2 with ⟨h0, _⟩ | ⟨b', off', ha, hc⟩
  · omega
  · simp only [Option.some.injEq, Addr.mk.injEq, and_true] at ha
    obtain ⟨rfl, rfl⟩ := ha
    exact hc j hj
end
end Go.Proofs.YtfoalaoanpbmeaaDoor
