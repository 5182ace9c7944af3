/-
  The one order of a tree's elements, plainly: ways from the beginning, by their keys; a list of all places in that order is one.
-/
import Derived.Test.YtmenhbdapikpeaaOrdMath
namespace Go.Proofs.Ytmenhbdapikpeaa

/-- Two ways against one another: where they part the greater key stands first; what is above stands first. -/
def wayF : List KeyV → List KeyV → Int
  | [], [] => 0
  | [], _ :: _ => -1
  | _ :: _, [] => 1
  | a :: r, b :: s => if keyF b a = 0 then wayF r s else keyF b a

theorem wayF_range (a b : List KeyV) : wayF a b = -1 ∨ wayF a b = 0 ∨ wayF a b = 1 := by
  induction a generalizing b with
  | nil => cases b <;> simp [wayF]
  | cons x r ih =>
    cases b with
    | nil => simp [wayF]
    | cons y s =>
      unfold wayF
      split
      · exact ih s
      · exact keyF_range y x
theorem wayF_self (a : List KeyV) : wayF a a = 0 := by
  induction a with
  | nil => rfl
  | cons x r ih => simp [wayF, keyF_self, ih]
theorem wayF_eq {a b : List KeyV} (h : wayF a b = 0) : a = b := by
  induction a generalizing b with
  | nil => cases b with | nil => rfl | cons y s => simp [wayF] at h
  | cons x r ih =>
    cases b with
    | nil => simp [wayF] at h
    | cons y s =>
      unfold wayF at h
      by_cases h1 : keyF y x = 0
      · rw [if_pos h1] at h
        rw [keyF_eq h1, ih h]
      · rw [if_neg h1] at h; exact absurd h h1
theorem wayF_anti (a b : List KeyV) : wayF b a = - wayF a b := by
  induction a generalizing b with
  | nil => cases b <;> simp [wayF]
  | cons x r ih =>
    cases b with
    | nil => simp [wayF]
    | cons y s =>
      unfold wayF
      have ha := keyF_anti x y
      by_cases h1 : keyF y x = 0
      · rw [if_pos h1, if_pos (by omega)]; exact ih s
      · rw [if_neg h1, if_neg (by omega)]; omega
theorem wayF_pre (p a b : List KeyV) : wayF (p ++ a) (p ++ b) = wayF a b := by
  induction p with
  | nil => rfl
  | cons x r ih => simp [wayF, keyF_self, ih]
theorem wayF_below (p : List KeyV) (x : KeyV) (r : List KeyV) : wayF p (p ++ x :: r) = -1 := by
  have h := wayF_pre p [] (x :: r)
  rw [List.append_nil] at h
  rw [h]; rfl
theorem keyF_lt_trans {a b c : KeyV} (h1 : keyF a b < 0) (h2 : keyF b c < 0) : keyF a c < 0 := by
  have h := keyF_trans (a := a) (b := b) (c := c) (by omega) (by omega)
  rcases Int.lt_or_eq_of_le h.1 with h3 | h3
  · exact h3
  · have := (h.2 h3).1; omega
theorem wayF_trans {a b c : List KeyV} (h1 : wayF a b < 0) (h2 : wayF b c < 0) : wayF a c < 0 := by
  induction a generalizing b c with
  | nil =>
    cases b with
    | nil => simp [wayF] at h1
    | cons y s => cases c with | nil => simp [wayF] at h2 | cons z t => simp [wayF]
  | cons x r ih =>
    cases b with
    | nil => simp [wayF] at h1
    | cons y s =>
      cases c with
      | nil => simp [wayF] at h2
      | cons z t =>
        unfold wayF at h1 h2 ⊢
        by_cases e1 : keyF y x = 0
        · have := keyF_eq e1; subst this
          rw [if_pos e1] at h1
          by_cases e2 : keyF z y = 0
          · rw [if_pos e2] at h2 ⊢
            exact ih h1 h2
          · rw [if_neg e2] at h2 ⊢
            exact h2
        · rw [if_neg e1] at h1
          by_cases e2 : keyF z y = 0
          · have := keyF_eq e2; subst this
            rw [if_neg e1]; exact h1
          · rw [if_neg e2] at h2
            have h3 := keyF_lt_trans h2 h1
            rw [if_neg (by omega)]
            exact h3
/-- Ahead of something that isn't below it: so is all that is below it. -/
theorem wayF_apart {a b : List KeyV} (h : wayF a b < 0) (hn : ∀ r, b ≠ a ++ r) (s : List KeyV) : wayF (a ++ s) b < 0 := by
  induction a generalizing b with
  | nil => exact absurd rfl (hn b)
  | cons x r ih =>
    cases b with
    | nil => simp [wayF] at h
    | cons y t =>
      rw [List.cons_append]
      unfold wayF at h ⊢
      by_cases e : keyF y x = 0
      · rw [if_pos e] at h ⊢
        have := keyF_eq e; subst this
        exact ih h (fun u hu => hn u (by rw [hu]; rfl))
      · rw [if_neg e] at h ⊢; exact h

/-- An element. -/
structure NodeV where
  k : KeyV
  p : Int
  r : Int
  d : Bool
instance : Inhabited NodeV := ⟨⟨⟨0, [], 0⟩, -1, 0, false⟩⟩
def nd (L : List NodeV) (i : Nat) : NodeV := L.getD i default
/-- Elements may be: what is asked of parents and of keys. -/
structure TreeP (L : List NodeV) : Prop where
  par : ∀ i, i < L.length → (nd L i).p = -1 ∨ ∃ j : Nat, (nd L i).p = (j : Int) ∧ j < L.length ∧ keyF (nd L j).k (nd L i).k < 0
  key : ∀ i j, i < L.length → j < L.length → (nd L i).k = (nd L j).k → i = j

/-- How many have a lesser key. -/
def rk (L : List NodeV) (k : KeyV) : Nat := L.countP fun x => decide (keyF x.k k < 0)
theorem countP_lt {α : Type} (p q : α → Bool) (l : List α) (h : ∀ x ∈ l, p x = true → q x = true) (y : α) (hy : y ∈ l) (h1 : q y = true) (h2 : p y = false) : l.countP p < l.countP q := by
  induction l with
  | nil => cases hy
  | cons a t ih =>
    rw [List.countP_cons, List.countP_cons]
    rcases List.mem_cons.1 hy with rfl | hm
    · have := List.countP_mono_left (l := t) (p := p) (q := q) (fun x hx => h x (List.mem_cons_of_mem _ hx))
      rw [h1, h2]; simp; omega
    · have h3 := ih (fun x hx => h x (List.mem_cons_of_mem _ hx)) hm
      have h4 := h a (List.mem_cons_self ..)
      cases hp : p a
      · simp; omega
      · rw [h4 hp]; simp; omega
theorem nd_mem {L : List NodeV} {i : Nat} (h : i < L.length) : nd L i ∈ L := by
  have : nd L i = L[i] := by unfold nd; simp [h]
  rw [this]; exact List.getElem_mem h
theorem rk_lt {L : List NodeV} {j : Nat} {k : KeyV} (hj : j < L.length) (h : keyF (nd L j).k k < 0) : rk L (nd L j).k < rk L k := by
  refine countP_lt _ _ L (fun x _ hx => ?_) (nd L j) (nd_mem hj) (by simpa using h) (by simp [keyF_self])
  simp only [decide_eq_true_eq] at hx ⊢
  exact keyF_lt_trans hx h
theorem rk_top (L : List NodeV) {i : Nat} (h : i < L.length) : rk L (nd L i).k < L.length := by
  have h2 : L.countP (fun x => decide (keyF x.k (nd L i).k < 0)) < L.countP (fun _ => true) := countP_lt _ _ L (fun _ _ _ => rfl) (nd L i) (nd_mem h) rfl (by simp [keyF_self])
  have h3 : L.countP (fun _ => true) = L.length := by simp
  unfold rk
  omega

/-- The way from the beginning to a place. -/
def wayN (L : List NodeV) : Nat → Nat → List Nat
  | 0, _ => []
  | f + 1, i => (if 0 ≤ (nd L i).p then wayN L f (nd L i).p.toNat else []) ++ [i]
theorem wayN_fuel {L : List NodeV} (hT : TreeP L) : ∀ (f g i : Nat), i < L.length → rk L (nd L i).k < f → rk L (nd L i).k < g → wayN L f i = wayN L g i
  | 0, _, _, _, h, _ => by omega
  | _ + 1, 0, _, _, _, h => by omega
  | f + 1, g + 1, i, hi, hf, hg => by
    unfold wayN
    rcases hT.par i hi with h | ⟨j, h, hj, hk⟩
    · rw [h, if_neg (by omega), if_neg (by omega)]
    · have hr := rk_lt hj hk
      rw [h, if_pos (by omega), if_pos (by omega), Int.toNat_natCast, wayN_fuel hT f g j hj (by omega) (by omega)]
def wayI (L : List NodeV) (i : Nat) : List Nat := wayN L L.length i
/-- The way to a parent: none, or a place. -/
def wayQ (L : List NodeV) (q : Int) : List Nat := if 0 ≤ q then wayI L q.toNat else []
theorem wayQ_nat (L : List NodeV) (i : Nat) : wayQ L (i : Int) = wayI L i := by unfold wayQ; rw [if_pos (by omega), Int.toNat_natCast]
theorem wayI_step {L : List NodeV} (hT : TreeP L) {i : Nat} (hi : i < L.length) : wayI L i = wayQ L (nd L i).p ++ [i] := by
  unfold wayI
  obtain ⟨n, hn⟩ : ∃ n, L.length = n + 1 := ⟨L.length - 1, by omega⟩
  rw [hn]
  unfold wayN
  have ht := rk_top L hi
  rcases hT.par i hi with h | ⟨j, h, hj, hk⟩
  · rw [h]; rfl
  · have hr := rk_lt hj hk
    have hw : wayN L n j = wayN L L.length j := wayN_fuel hT n L.length j hj (by omega) (rk_top L hj)
    rw [h, if_pos (by omega), Int.toNat_natCast, wayQ_nat, hw]
    rfl
theorem wayI_ne {L : List NodeV} (hT : TreeP L) {i : Nat} (hi : i < L.length) : wayI L i ≠ [] := by rw [wayI_step hT hi]; simp
/-- By strong induction along the ways. -/
theorem way_ind {L : List NodeV} (hT : TreeP L) {P : Nat → Prop} (h : ∀ i, i < L.length → (∀ j : Nat, (nd L i).p = (j : Int) → j < L.length → P j) → P i) : ∀ i, i < L.length → P i := by
  have : ∀ m i, i < L.length → rk L (nd L i).k < m → P i := by
    intro m
    induction m with
    | zero => intro i _ h; omega
    | succ m ih =>
      intro i hi hm
      refine h i hi (fun j hp hj => ih j hj ?_)
      rcases hT.par i hi with h0 | ⟨j', h0, hj', hk⟩
      · omega
      · have : j = j' := by omega
        subst this
        have := rk_lt hj hk
        omega
  exact fun i hi => this _ i hi (Nat.lt_succ_self _)
theorem wayI_mem {L : List NodeV} (hT : TreeP L) : ∀ i, i < L.length → ∀ j ∈ wayI L i, j < L.length := by
  refine way_ind hT (fun i hi ih => ?_)
  rw [wayI_step hT hi]
  intro j hj
  rcases List.mem_append.1 hj with hj | hj
  · rcases hT.par i hi with h0 | ⟨j', h0, hj', hk⟩
    · rw [h0] at hj; simp [wayQ] at hj
    · rw [h0, wayQ_nat] at hj
      exact ih j' h0 hj' j hj
  · simp at hj; omega
/-- What stands on a way has the way up to it. -/
theorem wayI_part {L : List NodeV} (hT : TreeP L) : ∀ i, i < L.length → ∀ A c B, wayI L i = A ++ c :: B → wayI L c = A ++ [c] ∧ wayQ L (nd L c).p = A ∧ c < L.length := by
  refine way_ind hT (fun i hi ih => ?_)
  intro A c B h
  have hs := wayI_step hT hi
  rcases List.eq_nil_or_concat B with rfl | ⟨B', z, rfl⟩
  · rw [h] at hs
    have h2 := List.append_inj' hs (by simp)
    have hc : c = i := by simpa using h2.2
    subst hc
    exact ⟨h, h2.1.symm, hi⟩
  · have e : A ++ c :: (B' ++ [z]) = (A ++ c :: B') ++ [z] := by simp
    rw [List.concat_eq_append, e] at h
    rw [h] at hs
    have h2 := List.append_inj' hs (by simp)
    rcases hT.par i hi with h0 | ⟨j', h0, hj', hk⟩
    · rw [h0] at h2; simp [wayQ] at h2
    · rw [h0, wayQ_nat] at h2
      exact ih j' h0 hj' A c B' h2.1.symm

/-- The way's keys. -/
def kys (L : List NodeV) (l : List Nat) : List KeyV := l.map fun i => (nd L i).k
theorem kys_app (L : List NodeV) (a b : List Nat) : kys L (a ++ b) = kys L a ++ kys L b := by simp [kys]
theorem kys_inj {L : List NodeV} (hT : TreeP L) : ∀ (a b : List Nat), (∀ i ∈ a, i < L.length) → (∀ i ∈ b, i < L.length) → kys L a = kys L b → a = b
  | [], [], _, _, _ => rfl
  | [], _ :: _, _, _, h => by simp [kys] at h
  | _ :: _, [], _, _, h => by simp [kys] at h
  | x :: r, y :: s, ha, hb, h => by
    simp only [kys, List.map_cons, List.cons.injEq] at h
    have h1 := hT.key x y (ha x (by simp)) (hb y (by simp)) h.1
    rw [h1, kys_inj hT r s (fun i hi => ha i (by simp [hi])) (fun i hi => hb i (by simp [hi])) h.2]
def wayK (L : List NodeV) (i : Nat) : List KeyV := kys L (wayI L i)
/-- Which of two places stands ahead. -/
def cmpT (L : List NodeV) (a b : Nat) : Int := wayF (wayK L a) (wayK L b)
theorem wayK_inj {L : List NodeV} (hT : TreeP L) {i j : Nat} (hi : i < L.length) (hj : j < L.length) (h : wayK L i = wayK L j) : i = j := by
  have h1 := kys_inj hT _ _ (wayI_mem hT i hi) (wayI_mem hT j hj) h
  rw [wayI_step hT hi, wayI_step hT hj] at h1
  have h2 := (List.append_inj' h1 (by simp)).2
  simpa using h2
theorem cmpT_eq {L : List NodeV} (hT : TreeP L) {i j : Nat} (hi : i < L.length) (hj : j < L.length) (h : cmpT L i j = 0) : i = j := wayK_inj hT hi hj (wayF_eq h)
/-- Places in the one order: all, each ahead of those behind. -/
def OrdT (L : List NodeV) (l : List Nat) : Prop := (l.Pairwise fun a b => cmpT L a b < 0) ∧ ∀ i, i ∈ l ↔ i < L.length
theorem ordT_nodup {L : List NodeV} {l : List Nat} (h : l.Pairwise fun a b => cmpT L a b < 0) : l.Nodup := h.imp (fun {a b} h e => by subst e; unfold cmpT at h; rw [wayF_self] at h; omega)
theorem sorted_unique {L : List NodeV} {l m : List Nat} (hl : l.Pairwise fun a b => cmpT L a b < 0) (hm : m.Pairwise fun a b => cmpT L a b < 0) (h : ∀ i, i ∈ l ↔ i ∈ m) : l = m :=
  List.Perm.eq_of_pairwise (fun a b _ _ h1 h2 => by
    have := wayF_anti (wayK L a) (wayK L b)
    unfold cmpT at h1 h2
    omega) hl hm ((List.perm_ext_iff_of_nodup (ordT_nodup hl) (ordT_nodup hm)).2 h)
theorem ordT_unique {L : List NodeV} {l m : List Nat} (hl : OrdT L l) (hm : OrdT L m) : l = m := sorted_unique hl.1 hm.1 (fun i => (hl.2 i).trans (hm.2 i).symm)
theorem ordT_length {L : List NodeV} {l : List Nat} (h : OrdT L l) : l.length = L.length := by
  have : l.Perm (List.range L.length) := (List.perm_ext_iff_of_nodup (ordT_nodup h.1) List.nodup_range).2 (fun i => by rw [h.2 i]; simp)
  rw [this.length_eq, List.length_range]

/-- Below a place, or below the beginning. -/
def Desc (L : List NodeV) (q : Int) (j : Nat) : Prop := ∃ c r, wayI L j = wayQ L q ++ c :: r
theorem desc_child {L : List NodeV} (hT : TreeP L) {c : Nat} {q : Int} (hc : c < L.length) (hq : (nd L c).p = q) : Desc L q c := ⟨c, [], by rw [wayI_step hT hc, hq]⟩
theorem desc_down {L : List NodeV} (hT : TreeP L) {c j : Nat} {q : Int} (hc : c < L.length) (hq : (nd L c).p = q) (h : Desc L c j) : Desc L q j := by
  obtain ⟨d, r, h⟩ := h
  rw [wayQ_nat, wayI_step hT hc, hq] at h
  exact ⟨c, d :: r, by rw [h]; simp⟩
theorem wayQ_inj {L : List NodeV} (hT : TreeP L) {i : Nat} (hi : i < L.length) {q : Int} (hq : q = -1 ∨ ∃ j : Nat, q = (j : Int) ∧ j < L.length) (h : wayQ L (nd L i).p = wayQ L q) : (nd L i).p = q := by
  rcases hT.par i hi with h1 | ⟨a, h1, ha, _⟩
  · rw [h1] at h ⊢
    rcases hq with h2 | ⟨b, h2, hb⟩
    · exact h2.symm
    · rw [h2, wayQ_nat] at h
      exact absurd h.symm (wayI_ne hT hb)
  · rw [h1, wayQ_nat] at h
    rw [h1]
    rcases hq with h2 | ⟨b, h2, hb⟩
    · rw [h2] at h
      exact absurd h (wayI_ne hT ha)
    · rw [h2, wayQ_nat] at h
      rw [h2, wayK_inj hT ha hb (by unfold wayK; rw [h])]
/-- What is below goes through a child. -/
theorem desc_cases {L : List NodeV} (hT : TreeP L) {j : Nat} {q : Int} (hj : j < L.length) (hq : q = -1 ∨ ∃ i : Nat, q = (i : Int) ∧ i < L.length) (h : Desc L q j) : ∃ c, c < L.length ∧ (nd L c).p = q ∧ (j = c ∨ Desc L c j) := by
  obtain ⟨c, r, h⟩ := h
  obtain ⟨h1, h2, h3⟩ := wayI_part hT j hj _ c r h
  refine ⟨c, h3, wayQ_inj hT h3 hq h2, ?_⟩
  cases r with
  | nil => exact .inl (wayK_inj hT hj h3 (by unfold wayK; rw [h, h1]))
  | cons d r => exact .inr ⟨d, r, by rw [h, wayQ_nat, h1]; simp⟩
theorem cmpT_below {L : List NodeV} {i j : Nat} (h : Desc L i j) : cmpT L i j < 0 := by
  obtain ⟨c, r, h⟩ := h
  unfold cmpT wayK
  rw [h, wayQ_nat, kys_app]
  show wayF (kys L (wayI L i)) (kys L (wayI L i) ++ (nd L c).k :: kys L r) < 0
  rw [wayF_below]; omega
/-- Two children of one parent, the last key first, with all below them. -/
theorem cmpT_kids {L : List NodeV} (hT : TreeP L) {a b i j : Nat} (ha : a < L.length) (hb : b < L.length) (hp : (nd L a).p = (nd L b).p) (hk : keyF (nd L b).k (nd L a).k < 0) (hi : i = a ∨ Desc L a i) (hj : j = b ∨ Desc L b j) : cmpT L i j < 0 := by
  have ei : ∃ r, wayI L i = wayQ L (nd L a).p ++ a :: r := by
    rcases hi with rfl | ⟨c, r, h⟩
    · exact ⟨[], wayI_step hT ha⟩
    · exact ⟨c :: r, by rw [h, wayQ_nat, wayI_step hT ha]; simp⟩
  have ej : ∃ r, wayI L j = wayQ L (nd L a).p ++ b :: r := by
    rcases hj with rfl | ⟨c, r, h⟩
    · exact ⟨[], by rw [hp]; exact wayI_step hT hb⟩
    · exact ⟨c :: r, by rw [h, wayQ_nat, wayI_step hT hb, hp]; simp⟩
  obtain ⟨r, er⟩ := ei
  obtain ⟨s, es⟩ := ej
  unfold cmpT wayK
  rw [er, es, kys_app, kys_app, wayF_pre]
  show wayF ((nd L a).k :: kys L r) ((nd L b).k :: kys L s) < 0
  unfold wayF
  rw [if_neg (by omega)]
  exact hk
theorem cmpT_trans {L : List NodeV} {a b c : Nat} (h1 : cmpT L a b < 0) (h2 : cmpT L b c < 0) : cmpT L a c < 0 := wayF_trans h1 h2
theorem cmpT_anti (L : List NodeV) (a b : Nat) : cmpT L b a = - cmpT L a b := wayF_anti _ _
#print axioms cmpT_kids
#print axioms desc_cases
#print axioms ordT_length
end Go.Proofs.Ytmenhbdapikpeaa
