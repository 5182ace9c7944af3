/-
  Children that are linked, the last key first, and how they are gone through, plainly: what is told is the one order.
-/
import Derived.Test.YtmenhbdapikpeaaTreeOrd
namespace Go.Proofs.Ytmenhbdapikpeaa

section
variable (first : Int → Int) (next : Nat → Int)
/-- What is told from a child on: it, all below it, the siblings behind it. -/
inductive Vis : Int → List Nat → Prop
  | nil : Vis (-1) []
  | cons (c : Nat) {l m : List Nat} : Vis (first c) l → Vis (next c) m → Vis c (c :: (l ++ m))
/-- Siblings that are linked. -/
inductive Chain : Int → List Nat → Prop
  | nil : Chain (-1) []
  | cons (c : Nat) {l : List Nat} : Chain (next c) l → Chain c (c :: l)
end
theorem chain_swap {next next2 : Nat → Int} {q : Int} {l : List Nat} (h : Chain next q l) (he : ∀ c ∈ l, next2 c = next c) : Chain next2 q l := by
  induction h with
  | nil => exact .nil
  | cons c h ih => exact .cons c (by rw [he c (by simp)]; exact ih (fun d hd => he d (by simp [hd])))
/-- The children of a parent, the last key first. -/
def KidsL (L : List NodeV) (q : Int) (l : List Nat) : Prop := (l.Pairwise fun a b => keyF (nd L b).k (nd L a).k < 0) ∧ ∀ c, c ∈ l ↔ c < L.length ∧ (nd L c).p = q
/-- A parent: none, or a place. -/
def PlQ (L : List NodeV) (q : Int) : Prop := q = -1 ∨ ∃ i : Nat, q = (i : Int) ∧ i < L.length
def Fam (L : List NodeV) (first : Int → Int) (next : Nat → Int) : Prop := ∀ q, PlQ L q → ∃ l, Chain next (first q) l ∧ KidsL L q l

/-- Of siblings and all below them: in order. -/
theorem vis_chain {L : List NodeV} (hT : TreeP L) {first : Int → Int} {next : Nat → Int} {q : Int} {cs : List Nat} (hc : Chain next q cs) (hs : cs.Pairwise fun a b => keyF (nd L b).k (nd L a).k < 0)
    (hp : ∃ p, ∀ c ∈ cs, c < L.length ∧ (nd L c).p = p)
    (hsub : ∀ c ∈ cs, ∃ l, Vis first next (first c) l ∧ (l.Pairwise fun a b => cmpT L a b < 0) ∧ ∀ j, j ∈ l ↔ j < L.length ∧ Desc L c j) :
    ∃ l, Vis first next q l ∧ (l.Pairwise fun a b => cmpT L a b < 0) ∧ ∀ j, j ∈ l ↔ j < L.length ∧ ∃ c ∈ cs, j = c ∨ Desc L c j := by
  induction hc with
  | nil => exact ⟨[], .nil, .nil, fun j => by simp⟩
  | cons c hc ih =>
    rename_i t
    obtain ⟨p, hp⟩ := hp
    obtain ⟨hs1, hs2⟩ := List.pairwise_cons.1 hs
    obtain ⟨m, hm, hmp, hmm⟩ := ih hs2 ⟨p, fun d hd => hp d (by simp [hd])⟩ (fun d hd => hsub d (by simp [hd]))
    obtain ⟨l, hl, hlp, hlm⟩ := hsub c (by simp)
    have hcL := (hp c (by simp)).1
    have far : ∀ i, (i = c ∨ Desc L c i) → ∀ j ∈ m, cmpT L i j < 0 := fun i hi j hj => by
      obtain ⟨_, d, hd, hj2⟩ := (hmm j).1 hj
      exact cmpT_kids hT hcL (hp d (by simp [hd])).1 ((hp c (by simp)).2.trans (hp d (by simp [hd])).2.symm) (hs1 d hd) hi hj2
    refine ⟨c :: (l ++ m), .cons c hl hm, List.pairwise_cons.2 ⟨fun j hj => ?_, List.pairwise_append.2 ⟨hlp, hmp, fun i hi j hj => far i (.inr ((hlm i).1 hi).2) j hj⟩⟩, fun j => ?_⟩
    · rcases List.mem_append.1 hj with hj | hj
      · exact cmpT_below ((hlm j).1 hj).2
      · exact far c (.inl rfl) j hj
    · simp only [List.mem_cons, List.mem_append]
      constructor
      · rintro (rfl | h | h)
        · exact ⟨hcL, j, .inl rfl, .inl rfl⟩
        · exact ⟨((hlm j).1 h).1, c, .inl rfl, .inr ((hlm j).1 h).2⟩
        · obtain ⟨h1, d, hd, h2⟩ := (hmm j).1 h
          exact ⟨h1, d, .inr hd, h2⟩
      · rintro ⟨h1, d, rfl | hd, h2⟩
        · rcases h2 with h2 | h2
          · exact .inl h2
          · exact .inr (.inl ((hlm j).2 ⟨h1, h2⟩))
        · exact .inr (.inr ((hmm j).2 ⟨h1, d, hd, h2⟩))

theorem vis_kids {L : List NodeV} (hT : TreeP L) {first : Int → Int} {next : Nat → Int} (hF : Fam L first next) {q : Int} (hq : PlQ L q)
    (hsub : ∀ c : Nat, c < L.length → (nd L c).p = q → ∃ l, Vis first next (first c) l ∧ (l.Pairwise fun a b => cmpT L a b < 0) ∧ ∀ j, j ∈ l ↔ j < L.length ∧ Desc L c j) :
    ∃ l, Vis first next (first q) l ∧ (l.Pairwise fun a b => cmpT L a b < 0) ∧ ∀ j, j ∈ l ↔ j < L.length ∧ Desc L q j := by
  obtain ⟨cs, hc, hs, hm⟩ := hF q hq
  obtain ⟨l, h1, h2, h3⟩ := vis_chain hT hc hs ⟨q, fun c h => (hm c).1 h⟩ (fun c h => hsub c ((hm c).1 h).1 ((hm c).1 h).2)
  refine ⟨l, h1, h2, fun j => (h3 j).trans ?_⟩
  constructor
  · rintro ⟨hj, c, hc, rfl | h⟩
    · exact ⟨hj, desc_child hT hj ((hm j).1 hc).2⟩
    · exact ⟨hj, desc_down hT ((hm c).1 hc).1 ((hm c).1 hc).2 h⟩
  · rintro ⟨hj, h⟩
    obtain ⟨c, hc, hp, h⟩ := desc_cases hT hj hq h
    exact ⟨hj, c, (hm c).2 ⟨hc, hp⟩, h⟩
theorem vis_sub {L : List NodeV} (hT : TreeP L) {first : Int → Int} {next : Nat → Int} (hF : Fam L first next) : ∀ m i, i < L.length → L.length - rk L (nd L i).k < m →
    ∃ l, Vis first next (first i) l ∧ (l.Pairwise fun a b => cmpT L a b < 0) ∧ ∀ j, j ∈ l ↔ j < L.length ∧ Desc L i j := by
  intro m
  induction m with
  | zero => intro i _ h; omega
  | succ m ih =>
    intro i hi hm
    refine vis_kids hT hF (.inr ⟨i, rfl, hi⟩) (fun c hc hp => ih c hc ?_)
    have ht := rk_top L hc
    rcases hT.par c hc with h0 | ⟨j, h0, hj, hk⟩
    · omega
    · have : j = i := by omega
      subst this
      have := rk_lt hj hk
      omega
/-- Gone through from the beginning's first child on: the one order. -/
theorem vis_all {L : List NodeV} (hT : TreeP L) {first : Int → Int} {next : Nat → Int} (hF : Fam L first next) : ∃ l, Vis first next (first (-1)) l ∧ OrdT L l := by
  obtain ⟨l, h1, h2, h3⟩ := vis_kids hT hF (q := -1) (.inl rfl) (fun c hc _ => vis_sub hT hF _ c hc (Nat.lt_succ_self _))
  refine ⟨l, h1, h2, fun j => (h3 j).trans ⟨fun h => h.1, fun h => ⟨h, ?_⟩⟩⟩
  have h0 := wayI_ne hT h
  cases hw : wayI L j with
  | nil => exact absurd hw h0
  | cons c r => exact ⟨c, r, by rw [hw]; rfl⟩

/-- How the children are linked: one place behind the other, in order of keys. (Told by numbers: 0 for none, else one more than the place.) -/
structure FamS where
  e : Nat
  F : List Nat
  N : List Nat
def firstS (s : FamS) (q : Int) : Int := if q = -1 then (s.e : Int) - 1 else ((s.F.getD q.toNat 0 : Nat) : Int) - 1
def nextS (s : FamS) (c : Nat) : Int := ((s.N.getD c 0 : Nat) : Int) - 1
def putS (L : List NodeV) (s : FamS) (x : Nat) : FamS :=
  if (nd L x).p = -1 then ⟨x + 1, s.F, s.N.set x s.e⟩ else ⟨s.e, s.F.set (nd L x).p.toNat (x + 1), s.N.set x (s.F.getD (nd L x).p.toNat 0)⟩
/-- The number of a parent's first child. -/
def codeS (s : FamS) (q : Int) : Nat := if q = -1 then s.e else s.F.getD q.toNat 0
theorem firstS_code (s : FamS) (q : Int) : firstS s q = (codeS s q : Int) - 1 := by unfold firstS codeS; split <;> rfl
/-- What is linked so far. -/
structure FamAt (L : List NodeV) (s : FamS) (done : List Nat) : Prop where
  f : s.F.length = L.length
  n : s.N.length = L.length
  kids : ∀ q, PlQ L q → Chain (nextS s) (firstS s q) ((done.filter fun c => decide ((nd L c).p = q)).reverse)
theorem famAt_zero (L : List NodeV) (N : List Nat) (hN : N.length = L.length) : FamAt L ⟨0, List.replicate L.length 0, N⟩ [] := by
  refine ⟨by simp, hN, fun q hq => ?_⟩
  have : firstS ⟨0, List.replicate L.length 0, N⟩ q = -1 := by
    unfold firstS
    split
    · rfl
    · rcases hq with h | ⟨i, rfl, hi⟩
      · exact absurd h (by assumption)
      · simp [List.getD, hi]
  rw [this]
  exact .nil
theorem getD_set_self {l : List Nat} {i : Nat} (h : i < l.length) (v : Nat) : (l.set i v).getD i 0 = v := by simp [List.getD, h]
theorem getD_set_ne {l : List Nat} {i j : Nat} (h : i ≠ j) (v : Nat) : (l.set i v).getD j 0 = l.getD j 0 := by simp [List.getD, h]
theorem famAt_put {L : List NodeV} (hT : TreeP L) {s : FamS} {done : List Nat} (h : FamAt L s done) {x : Nat} (hx : x < L.length) (hn : x ∉ done) : FamAt L (putS L s x) (done ++ [x]) := by
  obtain ⟨h1, h2, h3⟩ := h
  have hN : (putS L s x).N = s.N.set x (codeS s (nd L x).p) := by
    unfold putS codeS
    split <;> rfl
  have hx2 : x < s.N.length := by omega
  refine ⟨?_, by rw [hN, List.length_set]; exact h2, fun q hq => ?_⟩
  · unfold putS
    split
    · exact h1
    · simp [h1]
  · have old : Chain (nextS (putS L s x)) (firstS s q) ((done.filter fun c => decide ((nd L c).p = q)).reverse) := by
      refine chain_swap (h3 q hq) (fun c hc => ?_)
      unfold nextS
      rw [hN, getD_set_ne (fun e => hn (by subst e; simp at hc; exact hc.1)) _]
    rw [List.filter_append, List.reverse_append]
    by_cases hpq : (nd L x).p = q
    · have e1 : ([x].filter fun c => decide ((nd L c).p = q)) = [x] := by simp [hpq]
      have e2 : firstS (putS L s x) q = (x : Int) := by
        rw [firstS_code]
        unfold putS codeS
        rcases hT.par x hx with h0 | ⟨j, h0, hj, _⟩
        · rw [if_pos h0, if_pos (by omega)]
          show ((x + 1 : Nat) : Int) - 1 = x
          omega
        · rw [if_neg (by omega), if_neg (by omega), ← hpq]
          show (((s.F.set (nd L x).p.toNat (x + 1)).getD (nd L x).p.toNat 0 : Nat) : Int) - 1 = x
          rw [getD_set_self (by omega)]
          omega
      rw [e1, e2]
      refine .cons x ?_
      have e3 : nextS (putS L s x) x = firstS s q := by
        unfold nextS
        rw [hN, getD_set_self hx2, hpq, firstS_code]
      rw [e3]
      exact old
    · have e1 : ([x].filter fun c => decide ((nd L c).p = q)) = [] := by simp [hpq]
      have e2 : firstS (putS L s x) q = firstS s q := by
        rw [firstS_code, firstS_code]
        congr 2
        rcases hT.par x hx with h0 | ⟨j, h0, hj, _⟩
        · have e3 : putS L s x = ⟨x + 1, s.F, s.N.set x s.e⟩ := by unfold putS; rw [if_pos h0]
          rw [e3]
          unfold codeS
          rw [if_neg (by omega), if_neg (by omega)]
        · have e3 : putS L s x = ⟨s.e, s.F.set (nd L x).p.toNat (x + 1), s.N.set x (s.F.getD (nd L x).p.toNat 0)⟩ := by unfold putS; rw [if_neg (by omega)]
          rw [e3]
          unfold codeS
          rcases hq with h9 | ⟨i, h9, hi⟩
          · rw [if_pos h9, if_pos h9]
          · rw [if_neg (by omega), if_neg (by omega)]
            exact getD_set_ne (by omega) _
      rw [e1, e2]
      exact old
/-- All linked, in order of keys. -/
theorem famAt_all {L : List NodeV} {s : FamS} {S : List Nat} (h : FamAt L s S) (hs : S.Pairwise fun a b => keyF (nd L a).k (nd L b).k < 0) (hm : ∀ i, i ∈ S ↔ i < L.length) : Fam L (firstS s) (nextS s) := fun q hq =>
  ⟨_, h.kids q hq, by
    rw [List.pairwise_reverse]
    exact hs.sublist List.filter_sublist, fun c => by simp [hm]⟩
#print axioms vis_all
#print axioms famAt_put
#print axioms famAt_all
end Go.Proofs.Ytmenhbdapikpeaa
