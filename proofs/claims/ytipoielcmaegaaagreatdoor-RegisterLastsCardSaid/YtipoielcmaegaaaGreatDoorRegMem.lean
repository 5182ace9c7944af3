/-
  Claims in memory: their cells; slices of them; the map of the last ones, the set of keys.
-/
import Derived.Test.YtipoielcmaegaaaGreatDoorRgMathAll
import Derived.Test.YtipoielcmaegaaaGreatDoorSliceG
import Derived.Test.YtipoielcmaegaaaGreatDoorOrdAll
import Derived.Test.YtipoielcmaegaaaGreatDoorOneG
import Derived.DeepKeys4
import Derived.MapViews
import Derived.Maps.OwnSet
import Derived.Maps.RangeWalk
namespace Go.Proofs.YtipoielcmaegaaaGreatDoor
open Go.RowKit Go.Maps
open Go.ChangeMaps (notKey putKey mem_insert_iff)

theorem lawK : Keyed Tryz.prog 35 := Keyed.of_law (deep_law_laid (m := 4) (by kernel_rfl) (by omega) (of_decide_eq_true (by kernel_rfl)) (by kernel_rfl) (by kernel_rfl))
/-- What a key reads as. -/
def KlK (x : KeyV) (l : Lit) : Prop := keyOf Tryz.prog 35 (.agg (keyC x)) = some l
theorem map_B_inj {l m : List UInt8} (h : l.map B = m.map B) : l = m := by
  induction l generalizing m with
  | nil => cases m with | nil => rfl | cons y s => simp at h
  | cons x r ih =>
    cases m with
    | nil => simp at h
    | cons y s =>
      simp only [List.map_cons, List.cons.injEq] at h
      have h1 := h.1
      unfold B at h1
      simp only [Value.int.injEq, true_and] at h1
      rw [UInt8.toNat_inj.1 (by omega : x.toNat = y.toNat), ih h.2]
theorem keyL_inj {a b : KeyV} (h : keyL a = keyL b) : a = b := by
  unfold keyL at h
  have h0 := List.cons.inj h
  have h1 := List.append_inj' h0.2 (by simp)
  obtain ⟨t, c, i⟩ := a
  obtain ⟨t', c', i'⟩ := b
  have e1 : t = t' := by have := h0.1; simp only [Value.int.injEq, true_and] at this; exact this
  have e2 : c = c' := map_B_inj h1.1
  have e3 : i = i' := by have := (List.cons.inj h1.2).1; simp only [Value.int.injEq, true_and] at this; exact this
  rw [e1, e2, e3]
theorem KlK.same {x : KeyV} {l m : Lit} (h1 : KlK x l) (h2 : KlK x m) : l = m := by
  unfold KlK at h1 h2
  rw [h2] at h1
  exact (Option.some.inj h1).symm
theorem KlK.inj {x y : KeyV} {l : Lit} (hx : KlK x l) (hy : KlK y l) : x = y := by
  have h1 := lawK.inj hx hy
  have h2 : keyC x = keyC y := by simpa using h1
  unfold keyC at h2
  exact keyL_inj (by simpa using h2)

/-- A claim's cells. -/
def claimL (c : ClaimV) : List Value := keyL c.key ++ (keyL c.doc ++ [.int .u8 (c.kind : Int), .string (strB c.path)])
def claimC (c : ClaimV) : Array Value := (claimL c).toArray
/-- A claim as Go has it. -/
def ClOk (c : ClaimV) : Prop := c.key.c.length = 32 ∧ c.doc.c.length = 32 ∧ (∃ l, KlK c.key l) ∧ (∃ l, KlK c.doc l) ∧ c.kind < 256
theorem claimL_len {c : ClaimV} (h1 : c.key.c.length = 32) (h2 : c.doc.c.length = 32) : (claimL c).length = 70 := by simp [claimL, keyL_length h1, keyL_length h2]
theorem claimL_one (c : ClaimV) : ∀ v ∈ claimL c, v.oneCell' = true := fun v hv => by
  unfold claimL keyL at hv
  simp only [List.mem_cons, List.mem_append, List.mem_map, List.not_mem_nil, or_false] at hv
  rcases hv with (rfl | ⟨b, _, rfl⟩ | rfl) | (rfl | ⟨b, _, rfl⟩ | rfl) | rfl | rfl <;> rfl
theorem claimL_inj {a b : ClaimV} (ha : a.key.c.length = 32 ∧ a.doc.c.length = 32) (hb : b.key.c.length = 32 ∧ b.doc.c.length = 32) (h : claimL a = claimL b) : a = b := by
  unfold claimL at h
  have h1 := List.append_inj h (by rw [keyL_length ha.1, keyL_length hb.1])
  have h2 := List.append_inj h1.2 (by rw [keyL_length ha.2, keyL_length hb.2])
  have e1 := keyL_inj h1.1
  have e2 := keyL_inj h2.1
  have h3 := List.cons.inj h2.2
  have e3 : a.kind = b.kind := by have := h3.1; simp only [Value.int.injEq, true_and] at this; omega
  have e4 : a.path = b.path := by
    have := (List.cons.inj h3.2).1
    simp only [Value.string.injEq] at this
    exact strB_inj this
  obtain ⟨k, d, n, p⟩ := a
  obtain ⟨k', d', n', p'⟩ := b
  simp only at e1 e2 e3 e4
  rw [e1, e2, e3, e4]
/-- Slices of claims. -/
def clK : Kind ClaimV := ⟨claimL, 70, ClOk, by omega, fun _ h => claimL_len h.1 h.2.1, fun x _ => claimL_one x⟩
abbrev CEr : TypeId := 40
section
variable {w : World} {b off n c j : Nat} {L : List ClaimV}
theorem cl_key (h : AtG clK w (some ⟨b, off, none⟩) n c L) (hj : j < n) : w.rangeAt b (off + j * 70) (keyL (gd L j).key) := fun i v hv => by
  refine h.at_ j hj i v ?_
  show (claimL (gd L j))[i]? = some v
  unfold claimL
  rw [List.getElem?_append_left (List.getElem?_eq_some_iff.1 hv).1]
  exact hv
theorem cl_doc (h : AtG clK w (some ⟨b, off, none⟩) n c L) (hj : j < n) : w.rangeAt b (off + j * 70 + 34) (keyL (gd L j).doc) := fun i v hv => by
  have h1 := keyL_length (h.ok hj).1
  have h3 := h.at_ j hj (34 + i) v (by
    show (claimL (gd L j))[34 + i]? = some v
    unfold claimL
    rw [List.getElem?_append_right (by omega), h1, Nat.add_sub_cancel_left, List.getElem?_append_left (List.getElem?_eq_some_iff.1 hv).1]
    exact hv)
  rw [← Nat.add_assoc] at h3
  exact h3
theorem cl_kind (h : AtG clK w (some ⟨b, off, none⟩) n c L) (hj : j < n) : w.cell? ⟨b, off + j * 70 + 68, none⟩ = some (.int .u8 ((gd L j).kind : Int)) := by
  refine h.at_ j hj 68 _ ?_
  have h1 := keyL_length (h.ok hj).1
  have h2 := keyL_length (h.ok hj).2.1
  show (claimL (gd L j))[68]? = _
  unfold claimL
  rw [List.getElem?_append_right (by omega), h1, List.getElem?_append_right (by omega), h2]; rfl
theorem cl_path (h : AtG clK w (some ⟨b, off, none⟩) n c L) (hj : j < n) : w.cell? ⟨b, off + j * 70 + 69, none⟩ = some (.string (strB (gd L j).path)) := by
  refine h.at_ j hj 69 _ ?_
  have h1 := keyL_length (h.ok hj).1
  have h2 := keyL_length (h.ok hj).2.1
  show (claimL (gd L j))[69]? = _
  unfold claimL
  rw [List.getElem?_append_right (by omega), h1, List.getElem?_append_right (by omega), h2]; rfl
end
theorem infoCl : (Tryz.prog.info? CEr).map (fun i => (i.zero, i.size, i.bytes)) = some (some (.agg (claimC default)), 70, 120) := by kernel_rfl
theorem run_loadClaim {w : World} {b off : Nat} {k : ClaimV} (hl : ClOk k) (hc : w.rangeAt b off (claimL k)) : (loadVar CEr ⟨b, off, none⟩).run Tryz.prog w = .ok (.agg (claimC k)) w :=
  run_loadVar_mid (P := Tryz.prog) w b off CEr (claimL k) _ hc Tryz.underlying40 rfl (by rw [claimL_len hl.1 hl.2.1]; kernel_rfl)

/-! ### The set of keys -/
/-- The keys of these claims, and how many there are apart. -/
def SetD (T : List ClaimV) (D : DataW Unit) : Prop := (∀ kl, Maps.has D kl = true ↔ ∃ c ∈ T, KlK c.key kl) ∧ Maps.size D ≤ T.length ∧ (Maps.size D = T.length ↔ T.Pairwise fun a b => keyF a.key b.key ≠ 0)
theorem setD_nil : SetD [] (.map []) := ⟨fun kl => by simp [Maps.has], Nat.le_refl _, by simp [Maps.size]⟩
theorem SetD.next {T : List ClaimV} {D : DataW Unit} (h : SetD T D) (ht : Maps.Tidy D) {x : ClaimV} {kl : Lit} (hk : KlK x.key kl) (d : DataW Unit) : SetD (T ++ [x]) (D.put kl d) := by
  obtain ⟨h1, h2, h3⟩ := h
  have hl : WideAt.IsKeyLit kl := lawK.key hk
  have hsz : Maps.size (D.put kl d) = if Maps.has D kl = true then Maps.size D else Maps.size D + 1 := by
    have := Maps.size_put (k := kl) ht d
    simpa using this
  have hpw : (T ++ [x]).Pairwise (fun a b => keyF a.key b.key ≠ 0) ↔ T.Pairwise (fun a b => keyF a.key b.key ≠ 0) ∧ Maps.has D kl = false := by
    rw [List.pairwise_append]
    constructor
    · rintro ⟨p1, _, p3⟩
      refine ⟨p1, ?_⟩
      cases hh : Maps.has D kl
      · rfl
      · obtain ⟨c, hc, e⟩ := (h1 kl).1 hh
        have := p3 c hc x (by simp)
        rw [e.inj hk, keyF_self] at this
        exact absurd rfl this
    · rintro ⟨p1, p2⟩
      refine ⟨p1, List.pairwise_singleton _ _, fun a ha b hb e => ?_⟩
      simp only [List.mem_singleton] at hb
      subst hb
      have := (h1 kl).2 ⟨a, ha, by rw [keyF_eq e]; exact hk⟩
      rw [p2] at this; cases this
  refine ⟨fun kl' => ?_, ?_, ?_⟩
  · by_cases he : kl' = kl
    · subst he
      rw [Maps.has_put_same ht.isMap hl]
      simp only [true_iff]
      exact ⟨x, by simp, hk⟩
    · rw [Maps.has_put_other he, h1 kl']
      constructor
      · rintro ⟨c, hc, e⟩; exact ⟨c, by simp [hc], e⟩
      · rintro ⟨c, hc, e⟩
        rcases List.mem_append.1 hc with hc | hc
        · exact ⟨c, hc, e⟩
        · simp only [List.mem_singleton] at hc
          subst hc
          exact absurd (e.same hk) he
  · rw [hsz, List.length_append]; simp only [List.length_singleton]; split <;> omega
  · rw [hpw, hsz, List.length_append]
    simp only [List.length_singleton]
    cases hh : Maps.has D kl
    · simp only [Bool.false_eq_true, if_false, and_true]
      rw [← h3]; omega
    · simp only [if_true, Bool.true_eq_false, and_false, iff_false]
      omega

/-! ### The map of the last claims -/
/-- A claim as a datum. -/
def clD (c : ClaimV) : DataW Unit := .agg [.lit (.int .i64 c.key.t), .lit (.string c.key.c), .lit (.int .i64 c.key.i), .lit (.int .i64 c.doc.t), .lit (.string c.doc.c), .lit (.int .i64 c.doc.i), .lit (.int .i64 (c.kind : Int)), .lit (.string c.path)]
theorem clD_inj {a b : ClaimV} (h : clD a = clD b) : a = b := by
  obtain ⟨⟨t, c, i⟩, ⟨t2, c2, i2⟩, n, p⟩ := a
  obtain ⟨⟨t', c', i'⟩, ⟨t2', c2', i2'⟩, n', p'⟩ := b
  simp only [clD, DataW.agg.injEq, List.cons.injEq, DataW.lit.injEq, Lit.int.injEq, Lit.string.injEq, true_and, and_true] at h
  obtain ⟨h1, h2, h3, h4, h5, h6, h7, h8⟩ := h
  have : n = n' := by omega
  subst h1 h2 h3 h4 h5 h6 this h8
  rfl
open Classical in
noncomputable def clElem (v : Value) : Option (DataW Unit × List MemPlace) :=
  if h : ∃ c : ClaimV, (c.key.c.length = 32 ∧ c.doc.c.length = 32) ∧ v = .agg (claimC c) then some (clD (Classical.choose h), []) else none
theorem clElem_mk {c : ClaimV} (h : c.key.c.length = 32 ∧ c.doc.c.length = 32) : clElem (.agg (claimC c)) = some (clD c, []) := by
  have hx : ∃ c' : ClaimV, (c'.key.c.length = 32 ∧ c'.doc.c.length = 32) ∧ Value.agg (claimC c) = .agg (claimC c') := ⟨c, h, rfl⟩
  unfold clElem
  rw [dif_pos hx]
  have h2 := Classical.choose_spec hx
  have e : claimL (Classical.choose hx) = claimL c := by
    generalize Classical.choose hx = q at h2 ⊢
    have h3 := congrArg Array.toList (Value.agg.inj h2.2)
    simpa [claimC] using h3.symm
  rw [claimL_inj h2.1 h e]
theorem clElem_inv {v : Value} {y : DataW Unit × List MemPlace} (h : clElem v = some y) : ∃ c : ClaimV, (c.key.c.length = 32 ∧ c.doc.c.length = 32) ∧ v = .agg (claimC c) ∧ y = (clD c, []) := by
  unfold clElem at h
  split at h
  · rename_i hx
    have h2 := Classical.choose_spec hx
    exact ⟨_, h2.1, h2.2, (Option.some.inj h).symm⟩
  · cases h
/-- The last claims of these, by their documents. -/
def LastD (T : List ClaimV) (D : DataW Unit) : Prop :=
  (∀ kl, Maps.has D kl = true → ∃ c, IsLast T c ∧ KlK c.doc kl ∧ ∀ zd, D.atKey kl zd = clD c) ∧ (∀ x ∈ T, ∀ kl, KlK x.doc kl → Maps.has D kl = true)
theorem lastD_nil : LastD [] (.map []) := ⟨fun kl h => by simp [Maps.has] at h, fun x h => by cases h⟩
theorem LastD.none {T : List ClaimV} {D : DataW Unit} (h : LastD T D) {x : KeyV} {kl : Lit} (hk : KlK x kl) (hn : ∀ c ∈ T, c.doc ≠ x) : Maps.has D kl = false := by
  cases hh : Maps.has D kl
  · rfl
  · obtain ⟨c, h1, h2, _⟩ := h.1 kl hh
    exact absurd (h2.inj hk) (hn c h1.1)
theorem LastD.some_ {T : List ClaimV} {D : DataW Unit} (h : LastD T D) {c : ClaimV} (hc : c ∈ T) {kl : Lit} (hk : KlK c.doc kl) : Maps.has D kl = true ∧ ∃ d, IsLast T d ∧ d.doc = c.doc ∧ ∀ zd, D.atKey kl zd = clD d := by
  have hh := h.2 c hc kl hk
  obtain ⟨d, h1, h2, h3⟩ := h.1 kl hh
  exact ⟨hh, d, h1, h2.inj hk, h3⟩
/-- A claim that decides. -/
theorem LastD.put {T : List ClaimV} {D : DataW Unit} (h : LastD T D) (ht : Maps.IsMap D) {x : ClaimV} {kl : Lit} (hk : KlK x.doc kl) (hl : ∀ c ∈ T, c.doc = x.doc → keyF c.key x.key ≤ 0) : LastD (T ++ [x]) (D.put kl (clD x)) := by
  have hkl : WideAt.IsKeyLit kl := lawK.key hk
  refine ⟨fun kl' hh => ?_, fun y hy kl' hk' => ?_⟩
  · by_cases he : kl' = kl
    · subst he
      refine ⟨x, ⟨by simp, fun y hy e => ?_⟩, hk, fun zd => Maps.atKey_put_same ht hkl _ _⟩
      rcases List.mem_append.1 hy with hy | hy
      · exact hl y hy e
      · simp only [List.mem_singleton] at hy
        subst hy; rw [keyF_self]; omega
    · rw [Maps.has_put_other he] at hh
      obtain ⟨c, h1, h2, h3⟩ := h.1 kl' hh
      refine ⟨c, ⟨by simp [h1.1], fun y hy e => ?_⟩, h2, fun zd => by rw [Maps.atKey_put_other he]; exact h3 zd⟩
      rcases List.mem_append.1 hy with hy | hy
      · exact h1.2 y hy e
      · simp only [List.mem_singleton] at hy
        subst hy
        rw [e] at hk
        exact absurd (h2.same hk) he
  · by_cases he : kl' = kl
    · subst he; exact Maps.has_put_same ht hkl _
    · rw [Maps.has_put_other he]
      rcases List.mem_append.1 hy with hy | hy
      · exact h.2 y hy kl' hk'
      · simp only [List.mem_singleton] at hy
        subst hy
        exact absurd (hk'.same hk) he
/-- A claim that doesn't. -/
theorem LastD.stays {T : List ClaimV} {D : DataW Unit} (h : LastD T D) {x c : ClaimV} (hc : IsLast T c) (hd : c.doc = x.doc) (hl : keyF x.key c.key ≤ 0) (hR : ∀ a b, IsLast T a → IsLast T b → a.doc = b.doc → a = b) : LastD (T ++ [x]) D := by
  refine ⟨fun kl hh => ?_, fun y hy kl hk => ?_⟩
  · obtain ⟨d, h1, h2, h3⟩ := h.1 kl hh
    refine ⟨d, ⟨by simp [h1.1], fun y hy e => ?_⟩, h2, h3⟩
    rcases List.mem_append.1 hy with hy | hy
    · exact h1.2 y hy e
    · simp only [List.mem_singleton] at hy
      subst hy
      obtain rfl := hR d c h1 hc (by rw [← e, hd])
      exact hl
  · rcases List.mem_append.1 hy with hy | hy
    · exact h.2 y hy kl hk
    · simp only [List.mem_singleton] at hy
      subst hy
      exact h.2 c hc.1 kl (by rw [hd]; exact hk)
#print axioms LastD.stays
#print axioms SetD.next
end Go.Proofs.YtipoielcmaegaaaGreatDoor
