/-
  Merged: RegMath, RegLawMath.
-/
import Derived.Test.YtipoielcmaegaaaGreatDoorOrdMath
import Derived.Test.YtipoielcmaegaaaGreatDoorPathMath
namespace Go.Proofs.YtipoielcmaegaaaGreatDoor

/-- A claim. -/
structure ClaimV where
  key : KeyV
  doc : KeyV
  kind : Nat
  path : List UInt8
def zeroId : List UInt8 := List.replicate 32 0
instance : Inhabited ClaimV := ⟨⟨⟨0, zeroId, 0⟩, ⟨0, zeroId, 0⟩, 0, []⟩⟩
/-- May it be, by itself? -/
def claimOk (c : ClaimV) : Bool := ((c.kind == 3 || c.kind == 4) && pathF c.path) || (c.kind == 5 && c.path == [])
/-- May claims be? -/
def RightR (L : List ClaimV) : Prop := (∀ c ∈ L, claimOk c = true) ∧ L.Pairwise fun a b => keyF a.key b.key ≠ 0

theorem keyF_ne_comm {a b : KeyV} (h : keyF a b ≠ 0) : keyF b a ≠ 0 := by have := keyF_anti a b; omega
theorem keyF_lt_le {a b c : KeyV} (h1 : keyF a b < 0) (h2 : keyF b c ≤ 0) : keyF a c < 0 := by
  have h3 := keyF_trans (a := a) (b := b) (c := c) (by omega) h2
  rcases keyF_range a c with h | h | h
  · omega
  · have := h3.2 h; omega
  · omega
theorem keyF_le_lt {a b c : KeyV} (h1 : keyF a b ≤ 0) (h2 : keyF b c < 0) : keyF a c < 0 := by
  have h3 := keyF_trans (a := a) (b := b) (c := c) h1 (by omega)
  rcases keyF_range a c with h | h | h
  · omega
  · have := h3.2 h; omega
  · omega

/-- The last claim of its document, among these. -/
def IsLast (L : List ClaimV) (c : ClaimV) : Prop := c ∈ L ∧ ∀ x ∈ L, x.doc = c.doc → keyF x.key c.key ≤ 0
theorem RightR.inj {L : List ClaimV} (h : RightR L) {a b : ClaimV} (ha : a ∈ L) (hb : b ∈ L) (e : keyF a.key b.key = 0) : a = b := by
  have hp := h.2
  clear h
  induction L with
  | nil => cases ha
  | cons x r ih =>
    obtain ⟨h1, h2⟩ := List.pairwise_cons.1 hp
    rcases List.mem_cons.1 ha with e1 | ha1 <;> rcases List.mem_cons.1 hb with e2 | hb1
    · rw [e1, e2]
    · rw [e1] at e; exact absurd e (h1 b hb1)
    · rw [e2] at e; exact absurd e (keyF_ne_comm (h1 a ha1))
    · exact ih ha1 hb1 h2
theorem IsLast.uniq {L : List ClaimV} (h : RightR L) {a b : ClaimV} (ha : IsLast L a) (hb : IsLast L b) (e : a.doc = b.doc) : a = b := by
  have h1 := ha.2 b hb.1 e.symm
  have h2 := hb.2 a ha.1 e
  have h3 := keyF_anti a.key b.key
  exact h.inj ha.1 hb.1 (by omega)
theorem IsLast.congr {L M : List ClaimV} (h : ∀ c, c ∈ L ↔ c ∈ M) {c : ClaimV} : IsLast L c ↔ IsLast M c := by
  unfold IsLast
  rw [h c]
  constructor
  · rintro ⟨h1, h2⟩; exact ⟨h1, fun x hx => h2 x ((h x).2 hx)⟩
  · rintro ⟨h1, h2⟩; exact ⟨h1, fun x hx => h2 x ((h x).1 hx)⟩
/-- Each document of which something is claimed has a last claim. -/
theorem last_exists {L : List ClaimV} {x : ClaimV} (hx : x ∈ L) : ∃ c, IsLast L c ∧ c.doc = x.doc := by
  induction L generalizing x with
  | nil => cases hx
  | cons y r ih =>
    by_cases hr : ∃ z ∈ r, z.doc = x.doc
    · obtain ⟨z, hz, ez⟩ := hr
      obtain ⟨c, hc, ec⟩ := ih hz
      by_cases hy : y.doc = x.doc
      · by_cases hk : keyF y.key c.key ≤ 0
        · exact ⟨c, ⟨List.mem_cons_of_mem _ hc.1, fun a ha e => by
            rcases List.mem_cons.1 ha with rfl | ha
            · exact hk
            · exact hc.2 a ha e⟩, ec.trans ez⟩
        · refine ⟨y, ⟨by simp, fun a ha e => ?_⟩, hy⟩
          rcases List.mem_cons.1 ha with rfl | ha
          · rw [keyF_self]; omega
          · have h1 := hc.2 a ha (by rw [e, hy, ec, ez])
            have h2 := keyF_anti c.key y.key
            have h3 := keyF_range y.key c.key
            have h4 := keyF_range c.key y.key
            have := keyF_le_lt h1 (c := y.key) (by omega)
            omega
      · exact ⟨c, ⟨List.mem_cons_of_mem _ hc.1, fun a ha e => by
          rcases List.mem_cons.1 ha with rfl | ha
          · exact absurd (e.trans (ec.trans ez)) hy
          · exact hc.2 a ha e⟩, ec.trans ez⟩
    · have hxy : x = y := by
        rcases List.mem_cons.1 hx with h | h
        · exact h
        · exact absurd ⟨x, h, rfl⟩ hr
      subst hxy
      exact ⟨x, ⟨by simp, fun a ha e => by
        rcases List.mem_cons.1 ha with rfl | ha
        · rw [keyF_self]; omega
        · exact absurd ⟨a, ha, e⟩ hr⟩, rfl⟩

theorem nodup_sub_len {α : Type} : ∀ {S L : List α}, S.Nodup → (∀ x ∈ S, x ∈ L) → S.length ≤ L.length
  | [], _, _, _ => Nat.zero_le _
  | x :: T, L, hn, hs => by
    obtain ⟨h1, h2⟩ := List.nodup_cons.1 hn
    obtain ⟨A, B, rfl⟩ := List.append_of_mem (hs x (by simp))
    have := nodup_sub_len (S := T) (L := A ++ B) h2 (fun y hy => by
      have := hs y (by simp [hy])
      simp only [List.mem_append, List.mem_cons] at this ⊢
      rcases this with h | h | h
      · exact .inl h
      · exact absurd (h ▸ hy) h1
      · exact .inr h)
    simp only [List.length_append, List.length_cons] at this ⊢
    omega
/-- The last claims of the documents that are shown, in order of these. -/
def Shown (L S : List ClaimV) : Prop := (RightR L ∧ (S.Pairwise fun a b => keyF a.doc b.doc < 0) ∧ ∀ c, c ∈ S ↔ (IsLast L c ∧ c.kind ≠ 5)) ∨ (¬ RightR L ∧ S = [])
theorem Shown.sorted {L S : List ClaimV} (h : Shown L S) : S.Pairwise fun a b => keyF a.doc b.doc < 0 := by
  rcases h with h | h
  · exact h.2.1
  · rw [h.2]; exact List.Pairwise.nil
theorem Shown.nodup {L S : List ClaimV} (h : Shown L S) : S.Nodup := h.sorted.imp (fun {a b} h e => by subst e; rw [keyF_self] at h; omega)
theorem RightR.congr {L M : List ClaimV} (hp : L.Perm M) : RightR L ↔ RightR M := by
  unfold RightR
  rw [hp.pairwise_iff (fun {a b} h => keyF_ne_comm h)]
  constructor
  · rintro ⟨h1, h2⟩; exact ⟨fun c hc => h1 c (hp.mem_iff.2 hc), h2⟩
  · rintro ⟨h1, h2⟩; exact ⟨fun c hc => h1 c (hp.mem_iff.1 hc), h2⟩
theorem Shown.uniq {L M S T : List ClaimV} (hp : L.Perm M) (hS : Shown L S) (hT : Shown M T) : S = T := by
  have hr := RightR.congr hp
  rcases hS with ⟨h1, h2, h3⟩ | ⟨h1, h2⟩ <;> rcases hT with ⟨k1, k2, k3⟩ | ⟨k1, k2⟩
  · have hn1 : S.Nodup := h2.imp (fun {a b} h e => by subst e; rw [keyF_self] at h; omega)
    have hn2 : T.Nodup := k2.imp (fun {a b} h e => by subst e; rw [keyF_self] at h; omega)
    have hm : ∀ c, c ∈ S ↔ c ∈ T := fun c => by
      rw [h3 c, k3 c, IsLast.congr (fun c => hp.mem_iff)]
    have hq : S.Perm T := (List.perm_ext_iff_of_nodup hn1 hn2).2 hm
    exact List.Perm.eq_of_pairwise (fun a b _ _ h1 h2 => by have := keyF_anti a.doc b.doc; omega) h2 k2 hq
  · exact absurd (hr.1 h1) k1
  · exact absurd (hr.2 k1) h1
  · rw [h2, k2]
theorem Shown.mem {L S : List ClaimV} (h : Shown L S) {c : ClaimV} (hc : c ∈ S) : RightR L ∧ IsLast L c ∧ c.kind ≠ 5 := by
  rcases h with ⟨h1, h2, h3⟩ | ⟨h1, h2⟩
  · exact ⟨h1, (h3 c).1 hc⟩
  · rw [h2] at hc; cases hc
theorem Shown.length {L S : List ClaimV} (h : Shown L S) : S.length ≤ L.length := by
  exact nodup_sub_len h.nodup fun c hc => (h.mem hc).2.1.1
theorem Shown.path {L S : List ClaimV} (h : Shown L S) {c : ClaimV} (hc : c ∈ S) : c.path.length ≤ 64 := by
  obtain ⟨h1, h2, h3⟩ := h.mem hc
  have h4 := h1.1 c h2.1
  unfold claimOk at h4
  simp only [Bool.or_eq_true, Bool.and_eq_true, beq_iff_eq] at h4
  rcases h4 with ⟨_, h5⟩ | ⟨h5, _⟩
  · unfold pathF at h5
    simp only [Bool.and_eq_true, decide_eq_true_eq] at h5
    omega
  · exact absurd h5 h3

/-- The paths that they have: each made fresh against those ahead. -/
def PathsTo (S : List ClaimV) (P : List (List UInt8)) : Prop := P.length = S.length ∧ ∀ i, i < S.length → FreshR (S.getD i default).path (P.take i) (P.getD i default)
theorem pathsTo_nil : PathsTo [] [] := ⟨rfl, fun i h => by cases h⟩
theorem PathsTo.uniq {S : List ClaimV} {P Q : List (List UInt8)} (h : PathsTo S P) (k : PathsTo S Q) : P = Q := by
  have key : ∀ i, i ≤ S.length → P.take i = Q.take i := by
    intro i
    induction i with
    | zero => intro _; simp
    | succ i ih =>
      intro hi
      have h1 := h.2 i (by omega)
      have h2 := k.2 i (by omega)
      rw [ih (by omega)] at h1
      have e := h1.uniq h2
      have l1 : i < P.length := by rw [h.1]; omega
      have l2 : i < Q.length := by rw [k.1]; omega
      rw [List.take_succ_eq_append_getElem l1, List.take_succ_eq_append_getElem l2, ih (by omega)]
      have e1 : P.getD i default = P[i] := by simp [l1]
      have e2 : Q.getD i default = Q[i] := by simp [l2]
      rw [← e1, ← e2, e]
  have := key S.length (Nat.le_refl _)
  rw [← h.1, List.take_length, h.1, ← k.1, List.take_length] at this
  exact this
/-- One more. -/
theorem PathsTo.next {S : List ClaimV} {P : List (List UInt8)} {m : Nat} (hm : m < S.length) (h : PathsTo (S.take m) P) {r : List UInt8} (hr : FreshR (S.getD m default).path P r) : PathsTo (S.take (m + 1)) (P ++ [r]) := by
  have hl : P.length = m := by rw [h.1, List.length_take]; omega
  refine ⟨by rw [List.length_append, hl, List.length_take]; simp; omega, fun i hi => ?_⟩
  rw [List.length_take] at hi
  have hg : ∀ j, j < m + 1 → (S.take (m + 1)).getD j default = S.getD j default := fun j hj => by
    rw [List.getD_eq_getElem?_getD, List.getD_eq_getElem?_getD, List.getElem?_take, if_pos hj]
  rw [hg i (by omega)]
  rcases Nat.lt_or_ge i m with h1 | h1
  · have h2 := h.2 i (by rw [List.length_take]; omega)
    have e1 : (S.take m).getD i default = S.getD i default := by rw [List.getD_eq_getElem?_getD, List.getD_eq_getElem?_getD, List.getElem?_take, if_pos h1]
    have e2 : (P ++ [r]).take i = P.take i := by rw [List.take_append_of_le_length (by omega)]
    have e3 : (P ++ [r]).getD i default = P.getD i default := by rw [List.getD_eq_getElem?_getD, List.getD_eq_getElem?_getD, List.getElem?_append_left (by omega)]
    rw [e1] at h2
    rw [e2, e3]; exact h2
  · obtain rfl : i = m := by omega
    have e2 : (P ++ [r]).take i = P := by rw [← hl, List.take_left]
    have e3 : (P ++ [r]).getD i default = r := by rw [List.getD_eq_getElem?_getD, List.getElem?_append_right (by omega), hl]; simp
    rw [e2, e3]; exact hr
/-- No two clash. -/
theorem PathsTo.apart {S : List ClaimV} {P : List (List UInt8)} (h : PathsTo S P) {i j : Nat} (hi : i < S.length) (hj : j < i) : clashF (P.getD i default) (P.getD j default) = false := by
  have h1 := (h.2 i hi).free
  have hl : j < (P.take i).length := by rw [List.length_take, h.1]; omega
  have hm : P.getD j default ∈ P.take i := by
    have e : P.getD j default = (P.take i)[j] := by
      rw [List.getElem_take]
      have : j < P.length := by rw [h.1]; omega
      simp [this]
    rw [e]; exact List.getElem_mem hl
  unfold clashesF at h1
  rw [List.any_eq_false] at h1
  simpa using h1 _ hm
theorem PathsTo.inj {S : List ClaimV} {P : List (List UInt8)} (h : PathsTo S P) {i j : Nat} (hi : i < S.length) (hj : j < S.length) (e : P.getD i default = P.getD j default) : i = j := by
  have hs : ∀ x : List UInt8, clashF x x = true := fun x => by simp [clashF]
  rcases Nat.lt_trichotomy i j with h1 | h1 | h1
  · have := h.apart hj h1; rw [e, hs] at this; cases this
  · exact h1
  · have := h.apart hi h1; rw [e, hs] at this; cases this
/-- How long what is fresh is. -/
theorem dec_length : ∀ (k n : Nat), n < 10 ^ (k + 1) → (Lib.decDigits n).length ≤ k + 1 := by
  intro k
  induction k with
  | zero => intro n h; rw [Lib.decDigits_one (by simpa using h)]; simp
  | succ k ih =>
    intro n h
    unfold Lib.decDigits
    split
    · simp
    · rw [List.length_append]
      have := ih (n / 10) (by
        rw [Nat.div_lt_iff_lt_mul (by omega)]
        rw [Nat.pow_succ] at h; omega)
      simp
      omega
theorem FreshR.short {s : List UInt8} {ts : List (List UInt8)} {r : List UInt8} (h : FreshR s ts r) (hl : ts.length ≤ 90) : r.length ≤ s.length + 3 := by
  rcases h with ⟨_, rfl⟩ | ⟨_, n, hn, rfl⟩
  · omega
  · obtain ⟨k, hk, hk2⟩ := fresh_exists s ts (by omega)
    obtain rfl := hn.uniq hk
    have hd := dec_length 1 n (by omega)
    have h1 := hd_le s
    have h2 : (s.drop (hdF s).length).length = s.length - (hdF s).length := List.length_drop
    unfold numF
    rw [List.length_append, List.length_cons, List.length_append, h2]
    omega
theorem PathsTo.short {S : List ClaimV} {P : List (List UInt8)} (h : PathsTo S P) (hS : ∀ c ∈ S, c.path.length ≤ 64) (hl : S.length ≤ 90) {i : Nat} (hi : i < S.length) : (P.getD i default).length ≤ 67 := by
  have h1 := (h.2 i hi).short (by rw [List.length_take]; omega)
  have h2 := hS (S.getD i default) (by
    have : S.getD i default = S[i] := by simp [hi]
    rw [this]; exact List.getElem_mem hi)
  omega
#print axioms PathsTo.short
#print axioms Shown.uniq
end Go.Proofs.YtipoielcmaegaaaGreatDoor

namespace Go.Proofs.YtipoielcmaegaaaGreatDoor

/-- Documents with their paths. -/
def zipN (S : List ClaimV) (P : List (List UInt8)) : List (KeyV × List UInt8) := List.zipWith (fun c p => (c.doc, p)) S P
instance : Inhabited KeyV := ⟨⟨0, zeroId, 0⟩⟩
theorem zipN_length {S : List ClaimV} {P : List (List UInt8)} (h : PathsTo S P) : (zipN S P).length = S.length := by
  unfold zipN; rw [List.length_zipWith, h.1]; omega
theorem zipN_get (S : List ClaimV) : ∀ (P : List (List UInt8)) (i : Nat), i < S.length → i < P.length → (zipN S P).getD i default = ((S.getD i default).doc, P.getD i default) := by
  induction S with
  | nil => intro P i h; simp at h
  | cons c T ih =>
    intro P i hi hp
    cases P with
    | nil => simp at hp
    | cons p Q =>
      cases i with
      | zero => rfl
      | succ i => exact ih Q i (by simpa using hi) (by simpa using hp)
theorem zipN_at {S : List ClaimV} {P : List (List UInt8)} (h : PathsTo S P) {i : Nat} (hi : i < S.length) : (zipN S P).getD i default = ((S.getD i default).doc, P.getD i default) :=
  zipN_get S P i hi (by rw [h.1]; exact hi)
theorem zipN_snoc {S : List ClaimV} {P : List (List UInt8)} {m : Nat} (h : PathsTo (S.take m) P) (hm : m < S.length) (r : List UInt8) : zipN (S.take (m + 1)) (P ++ [r]) = zipN (S.take m) P ++ [((S.getD m default).doc, r)] := by
  have hl : P.length = (S.take m).length := h.1
  unfold zipN
  rw [List.take_succ_eq_append_getElem hm, List.zipWith_append hl.symm]
  simp [hm]
theorem zipN_mem {S : List ClaimV} {P : List (List UInt8)} (h : PathsTo S P) (d : KeyV) : (∃ i, i < S.length ∧ ((zipN S P).getD i default).1 = d) ↔ ∃ c ∈ S, c.doc = d := by
  constructor
  · rintro ⟨i, hi, e⟩
    rw [zipN_at h hi] at e
    refine ⟨S.getD i default, ?_, e⟩
    have : S.getD i default = S[i] := by simp [hi]
    rw [this]; exact List.getElem_mem hi
  · rintro ⟨c, hc, e⟩
    obtain ⟨i, hi, rfl⟩ := List.mem_iff_getElem.1 hc
    refine ⟨i, hi, ?_⟩
    rw [zipN_at h hi]
    simpa [hi] using e

/-- A claim behind all others is the last one of its document. -/
theorem last_newest {L : List ClaimV} {x : ClaimV} (h : ∀ c ∈ L, keyF c.key x.key < 0) : IsLast (L ++ [x]) x := ⟨by simp, fun y hy _ => by
  rcases List.mem_append.1 hy with hy | hy
  · have := h y hy; omega
  · simp only [List.mem_singleton] at hy
    subst hy; rw [keyF_self]; omega⟩
theorem shown_newest {L S : List ClaimV} {x : ClaimV} (hr : RightR (L ++ [x])) (hS : Shown (L ++ [x]) S) (h : ∀ c ∈ L, keyF c.key x.key < 0) : (∃ c ∈ S, c.doc = x.doc) ↔ x.kind ≠ 5 := by
  have hl := last_newest h
  rcases hS with ⟨_, _, h3⟩ | ⟨h1, _⟩
  · constructor
    · rintro ⟨c, hc, e⟩
      obtain ⟨h4, h5⟩ := (h3 c).1 hc
      obtain rfl := h4.uniq hr hl e
      exact h5
    · intro h5
      exact ⟨x, (h3 x).2 ⟨hl, h5⟩, rfl⟩
  · exact absurd hr h1
/-- Two elements change their places. -/
def swapF (L : List ClaimV) (x y : Nat) : List ClaimV := (L.set x (L.getD y default)).set y (L.getD x default)
theorem swapF_length (L : List ClaimV) (x y : Nat) : (swapF L x y).length = L.length := by simp [swapF]
theorem swapF_perm {L : List ClaimV} {x y : Nat} (hx : x < L.length) (hy : y < L.length) : L.Perm (swapF L x y) := by
  unfold swapF
  have e1 : L.getD x default = L[x] := by simp [hx]
  have e2 : L.getD y default = L[y] := by simp [hy]
  rw [e1, e2]
  exact (List.set_set_perm hx hy).symm
#print axioms swapF_perm
end Go.Proofs.YtipoielcmaegaaaGreatDoor
