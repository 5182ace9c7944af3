/-
  The one order told place by place, always the greatest child that isn't told yet, or back to the parent: plainly.
-/
import Derived.Test.YtmenhbdapikpeaaTreeVis
namespace Go.Proofs.Ytmenhbdapikpeaa

/-- What is told is the beginning of the one order. -/
def Begun (L : List NodeV) (out : List Nat) : Prop := (out.Pairwise fun a b => cmpT L a b < 0) ∧ (∀ i ∈ out, i < L.length) ∧ ∀ i ∈ out, ∀ j, j < L.length → j ∉ out → cmpT L i j < 0
/-- Where the reference stands: what is told, and at which place. -/
structure RefT (L : List NodeV) (out : List Nat) (q : Int) : Prop where
  begun : Begun L out
  at_ : q = -1 ∨ ∃ a : Nat, q = (a : Int) ∧ a < L.length ∧ a ∈ out
  full : ∀ c, c < L.length → c ∈ out → (∃ r, wayQ L q = wayQ L (nd L c).p ++ r) → (¬ ∃ r, wayQ L q = wayI L c ++ r) → ∀ j, j < L.length → Desc L c j → j ∈ out
theorem refT_zero (L : List NodeV) : RefT L [] (-1) := ⟨⟨.nil, ⟨fun _ h => (List.not_mem_nil h).elim, fun _ h => (List.not_mem_nil h).elim⟩⟩, .inl rfl, fun _ _ h => (List.not_mem_nil h).elim⟩
theorem RefT.plq {L : List NodeV} {out : List Nat} {q : Int} (h : RefT L out q) : PlQ L q := by
  rcases h.at_ with h | ⟨a, h, h2, _⟩
  · exact .inl h
  · exact .inr ⟨a, h, h2⟩
/-- A child of the place is told, with all below it. -/
theorem RefT.child {L : List NodeV} (hT : TreeP L) {out : List Nat} {q : Int} (h : RefT L out q) {c : Nat} (hc : c < L.length) (hp : (nd L c).p = q) (ho : c ∈ out) {j : Nat} (hj : j < L.length) (hd : Desc L c j) : j ∈ out := by
  refine h.full c hc ho ⟨[], by rw [hp, List.append_nil]⟩ (fun ⟨r, hr⟩ => ?_) j hj hd
  rw [wayI_step hT hc, hp] at hr
  have := congrArg List.length hr
  simp at this
/-- The greatest child that isn't told is the next one. -/
theorem RefT.down {L : List NodeV} (hT : TreeP L) {out : List Nat} {q : Int} (h : RefT L out q) {k : Nat} (hk : k < L.length) (hp : (nd L k).p = q) (hn : k ∉ out) (hg : ∀ c, c < L.length → (nd L c).p = q → c ∉ out → keyF (nd L c).k (nd L k).k ≤ 0) : RefT L (out ++ [k]) k := by
  obtain ⟨⟨b1, b2, b3⟩, ha, hf⟩ := h
  have hr : RefT L out q := ⟨⟨b1, b2, b3⟩, ha, hf⟩
  have key : ∀ j, j < L.length → j ∉ out → j ≠ k → cmpT L k j < 0 := by
    intro j hj hjo hjk
    by_cases hd : Desc L q j
    · obtain ⟨c, hc, hcp, hcj⟩ := desc_cases hT hj hr.plq hd
      have hco : c ∉ out := fun hco => by
        rcases hcj with rfl | hcj
        · exact hjo hco
        · exact hjo (hr.child hT hc hcp hco hj hcj)
      have h1 := hg c hc hcp hco
      rcases Int.lt_or_eq_of_le h1 with h2 | h2
      · exact cmpT_kids hT hk hc (hp.trans hcp.symm) h2 (.inl rfl) hcj
      · have : c = k := hT.key c k hc hk (keyF_eq h2)
        subst this
        rcases hcj with rfl | hcj
        · exact absurd rfl hjk
        · exact cmpT_below hcj
    · rcases ha with h0 | ⟨a, h0, haL, hao⟩
      · exfalso
        refine hd ?_
        have h1 := wayI_ne hT hj
        cases hw : wayI L j with
        | nil => exact absurd hw h1
        | cons c r => exact ⟨c, r, by rw [hw, h0]; rfl⟩
      · have h1 := b3 a hao j hj hjo
        have h2 : ∀ r, wayK L j ≠ wayK L a ++ r := by
          intro r hr2
          unfold wayK at hr2
          have hm := wayI_mem hT j hj
          have hma := wayI_mem hT a haL
          have e := kys_inj hT (wayI L j) (wayI L a ++ (wayI L j).drop (wayI L a).length) hm (fun i hi => by
            rcases List.mem_append.1 hi with hi | hi
            · exact hma i hi
            · exact hm i (List.mem_of_mem_drop hi)) (by
            rw [kys_app]
            have e3 : kys L ((wayI L j).drop (wayI L a).length) = (kys L (wayI L j)).drop (wayI L a).length := by simp [kys]
            rw [e3, hr2]
            have e4 : (kys L (wayI L a)).length = (wayI L a).length := by simp [kys]
            rw [← e4, List.drop_left])
          cases hw : (wayI L j).drop (wayI L a).length with
          | nil =>
            rw [hw, List.append_nil] at e
            have : j = a := wayK_inj hT hj haL (by unfold wayK; rw [e])
            subst this
            exact hjo hao
          | cons c s => exact hd ⟨c, s, by rw [h0, wayQ_nat, ← hw, ← e]⟩
        unfold cmpT at h1 ⊢
        have e : wayK L k = wayK L a ++ [(nd L k).k] := by
          unfold wayK
          rw [wayI_step hT hk, hp, h0, wayQ_nat, kys_app]
          rfl
        rw [e]
        exact wayF_apart h1 h2 _
  refine ⟨⟨List.pairwise_append.2 ⟨b1, by simp, fun i hi j hj => ?_⟩, fun i hi => ?_, fun i hi j hj hjo => ?_⟩, .inr ⟨k, rfl, hk, by simp⟩, fun c hc hco hpre hnot j hj hd => ?_⟩
  · simp at hj; subst hj
    exact b3 i hi _ hk hn
  · rcases List.mem_append.1 hi with hi | hi
    · exact b2 i hi
    · simp at hi; omega
  · simp only [List.mem_append, List.mem_singleton, not_or] at hjo
    rcases List.mem_append.1 hi with hi | hi
    · exact b3 i hi j hj hjo.1
    · simp at hi; subst hi
      exact key j hj hjo.1 hjo.2
  · refine List.mem_append_left _ ?_
    rw [wayQ_nat] at hpre hnot
    have ek := wayI_step hT hk
    rw [hp] at ek
    rcases List.mem_append.1 hco with hco | hco
    · obtain ⟨r, hr2⟩ := hpre
      rcases List.eq_nil_or_concat r with rfl | ⟨r', z, rfl⟩
      · -- a child of k that is told
        exfalso
        rw [List.append_nil] at hr2
        have hpc : (nd L c).p = (k : Int) := wayQ_inj hT hc (.inr ⟨k, rfl, hk⟩) (by rw [wayQ_nat, hr2])
        have h1 : cmpT L k c < 0 := cmpT_below (desc_child hT hc hpc)
        have h2 := b3 c hco k hk hn
        have := cmpT_anti L k c
        omega
      · refine hf c hc hco ?_ ?_ j hj hd
        · rw [ek, List.concat_eq_append, ← List.append_assoc] at hr2
          exact ⟨r', (List.append_inj' hr2 (by simp)).1⟩
        · rintro ⟨s, hs⟩
          exact hnot ⟨s ++ [k], by rw [ek, hs, List.append_assoc]⟩
    · simp at hco
      subst hco
      exact absurd ⟨[], by simp⟩ hnot
/-- No child is left: all below is told, and it goes on at the parent. -/
theorem RefT.up {L : List NodeV} (hT : TreeP L) {out : List Nat} {a : Nat} (h : RefT L out a) (hg : ∀ c, c < L.length → (nd L c).p = (a : Int) → c ∈ out) : RefT L out (nd L a).p := by
  obtain ⟨b, ha, hf⟩ := id h
  have haL : a < L.length ∧ a ∈ out := by
    rcases ha with h0 | ⟨a', h0, h1, h2⟩
    · omega
    · have : a = a' := by omega
      subst this
      exact ⟨h1, h2⟩
  have ek := wayI_step hT haL.1
  refine ⟨b, ?_, fun c hc hco hpre hnot j hj hd => ?_⟩
  · rcases hT.par a haL.1 with h0 | ⟨p, h0, hp, hk⟩
    · exact .inl h0
    · refine .inr ⟨p, h0, hp, ?_⟩
      by_cases hpo : p ∈ out
      · exact hpo
      · have h1 := b.2.2 a haL.2 p hp hpo
        have h2 : cmpT L p a < 0 := cmpT_below (desc_child hT haL.1 h0)
        have := cmpT_anti L p a
        omega
  · by_cases hca : ∃ r, wayI L a = wayI L c ++ r
    · obtain ⟨r, hr⟩ := hca
      rcases List.eq_nil_or_concat r with rfl | ⟨r', z, rfl⟩
      · rw [List.append_nil] at hr
        have : c = a := wayK_inj hT hc haL.1 (by unfold wayK; rw [hr])
        subst this
        obtain ⟨d, hd1, hd2, hd3⟩ := desc_cases hT hj (.inr ⟨c, rfl, hc⟩) hd
        rcases hd3 with rfl | hd3
        · exact hg j hd1 hd2
        · exact h.child hT hd1 hd2 (hg d hd1 hd2) hj hd3
      · rw [ek, List.concat_eq_append, ← List.append_assoc] at hr
        exact absurd ⟨r', (List.append_inj' hr (by simp)).1⟩ hnot
    · refine hf c hc hco ?_ (by rw [wayQ_nat]; exact hca) j hj hd
      obtain ⟨r, hr⟩ := hpre
      rw [wayQ_nat, ek, hr]
      exact ⟨r ++ [a], by simp⟩
/-- At the beginning with no child left: all is told. -/
theorem RefT.end_ {L : List NodeV} (hT : TreeP L) {out : List Nat} (h : RefT L out (-1)) (hg : ∀ c, c < L.length → (nd L c).p = -1 → c ∈ out) : ∀ j, j < L.length → j ∈ out := by
  intro j hj
  have h1 := wayI_ne hT hj
  have hd : Desc L (-1) j := by
    cases hw : wayI L j with
    | nil => exact absurd hw h1
    | cons c r => exact ⟨c, r, by rw [hw]; rfl⟩
  obtain ⟨c, hc, hcp, hcj⟩ := desc_cases hT hj (.inl rfl) hd
  rcases hcj with rfl | hcj
  · exact hg j hc hcp
  · exact h.child hT hc hcp (hg c hc hcp) hj hcj
theorem nodup_len {l : List Nat} {n : Nat} (h : l.Nodup) (hl : ∀ i ∈ l, i < n) : l.length ≤ n := by
  have hp : l.Perm ((List.range n).filter fun i => decide (i ∈ l)) := (List.perm_ext_iff_of_nodup h (List.nodup_range.sublist List.filter_sublist)).2 (fun i => by
    simp only [List.mem_filter, List.mem_range, decide_eq_true_eq]
    exact ⟨fun hi => ⟨hl i hi, hi⟩, fun hi => hi.2⟩)
  rw [hp.length_eq]
  exact Nat.le_trans (List.length_filter_le _ _) (by simp)
theorem RefT.out_lt {L : List NodeV} {out : List Nat} {q : Int} (h : RefT L out q) : out.length ≤ L.length := by
  exact nodup_len (ordT_nodup h.begun.1) h.begun.2.1
theorem RefT.all {L : List NodeV} {out : List Nat} {q : Int} (h : RefT L out q) (hn : L.length ≤ out.length) : OrdT L out := by
  refine ⟨h.begun.1, fun i => ⟨h.begun.2.1 i, fun hi => ?_⟩⟩
  by_cases hio : i ∈ out
  · exact hio
  · exfalso
    have h1 := ordT_nodup h.begun.1
    have h2 : (i :: out).Nodup := List.nodup_cons.2 ⟨hio, h1⟩
    have := nodup_len h2 (n := L.length) (fun j hj => by
      rcases List.mem_cons.1 hj with rfl | hj
      · exact hi
      · exact h.begun.2.1 j hj)
    simp at this
    omega
/-- How long a way is at most. -/
theorem wayI_len {L : List NodeV} : ∀ f i, (wayN L f i).length ≤ f
  | 0, _ => by simp [wayN]
  | f + 1, i => by
    unfold wayN
    split
    · have := wayI_len (L := L) f (nd L i).p.toNat
      simp; omega
    · simp
theorem way_up {L : List NodeV} (hT : TreeP L) {i : Nat} (hi : i < L.length) : (wayQ L (nd L i).p).length + 1 = (wayI L i).length := by
  rw [wayI_step hT hi]; simp
theorem wayQ_len (L : List NodeV) (q : Int) : (wayQ L q).length ≤ L.length := by
  unfold wayQ
  split
  · exact wayI_len _ _
  · simp
#print axioms RefT.down
#print axioms RefT.up
#print axioms RefT.end_
#print axioms RefT.all
end Go.Proofs.Ytmenhbdapikpeaa
