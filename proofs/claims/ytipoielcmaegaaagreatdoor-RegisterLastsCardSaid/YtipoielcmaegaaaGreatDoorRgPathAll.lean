/-
  Merged: RegShown, RegPaths.
-/
import Derived.Test.YtipoielcmaegaaaGreatDoorRgLastAll
import Derived.Great.BuildSlice
import Derived.Test.YtipoielcmaegaaaGreatDoorRgMathAll
namespace Go.Proofs.YtipoielcmaegaaaGreatDoor
open Go.RowKit Go.Maps

theorem list32 {l : List UInt8} (h : l.length = 32) : ∃ b0 b1 b2 b3 b4 b5 b6 b7 b8 b9 b10 b11 b12 b13 b14 b15 b16 b17 b18 b19 b20 b21 b22 b23 b24 b25 b26 b27 b28 b29 b30 b31, l = [b0, b1, b2, b3, b4, b5, b6, b7, b8, b9, b10, b11, b12, b13, b14, b15, b16, b17, b18, b19, b20, b21, b22, b23, b24, b25, b26, b27, b28, b29, b30, b31] := by
  match l, h with
  | [b0, b1, b2, b3, b4, b5, b6, b7, b8, b9, b10, b11, b12, b13, b14, b15, b16, b17, b18, b19, b20, b21, b22, b23, b24, b25, b26, b27, b28, b29, b30, b31], _ => exact ⟨b0, b1, b2, b3, b4, b5, b6, b7, b8, b9, b10, b11, b12, b13, b14, b15, b16, b17, b18, b19, b20, b21, b22, b23, b24, b25, b26, b27, b28, b29, b30, b31, rfl⟩
theorem fill_claim (x : ClaimV) (hx : x.key.c.length = 32 ∧ x.doc.c.length = 32) (z : Value) (hz : z = .agg (claimC default)) : Instr.fill (fun i => some (i * 70, 70)) ((Array.range (1 * 70)).map (z.cells[· % z.cells.size]!)) [(0, .agg (claimC x))] = some (claimC x) := by
  subst hz
  obtain ⟨⟨t, c, i⟩, ⟨t2, c2, i2⟩, n, p⟩ := x
  obtain ⟨b0, b1, b2, b3, b4, b5, b6, b7, b8, b9, b10, b11, b12, b13, b14, b15, b16, b17, b18, b19, b20, b21, b22, b23, b24, b25, b26, b27, b28, b29, b30, b31, rfl⟩ := list32 hx.1
  obtain ⟨e0, e1, e2, e3, e4, e5, e6, e7, e8, e9, e10, e11, e12, e13, e14, e15, e16, e17, e18, e19, e20, e21, e22, e23, e24, e25, e26, e27, e28, e29, e30, e31, rfl⟩ := list32 hx.2
  kernel_rfl
/-- A slice literal of one claim. -/
theorem wp_sl_claim {o : Oper} {a : Act} {w : World} {K : Act → World → Prop} {Q : Exit → Act → World → Prop} (x : Operand) (ho : o.op = .buildSlice 26 1 #[(0, x)]) (X : ClaimV) (hX : X.key.c.length = 32 ∧ X.doc.c.length = 32) (hx : a.eval x = .agg (claimC X))
    (h : K (a.put o.dst (.slice (some ⟨w.heap.size, 0, none⟩) 1 1)) (w.alloc (.cells (claimC X) CEr))) : o.wp Tryz.prog a w K Q := by
  obtain ⟨i0, hi, hz0, hz1, hz2⟩ := info_parts infoCl
  refine wp_buildSlice 26 CEr 1 #[(0, x)] ho (claimC X) i0 _ Tryz.underlying26 hi hz0 (by rw [hz1]; decide) (by rw [hz1]; decide) ?_ h
  rw [hz1]
  have e : (#[(0, x)].map fun (p : Nat × Operand) => (p.1, a.eval p.2)).toList = [(0, .agg (claimC X))] := by simp [hx]
  exact (congrArg (Instr.fill (fun i => some (i * 70, 70)) _) e).trans (fill_claim X hX _ rfl)
theorem sl_claim {ops : Array Oper} {rest : List Oper} {o : Oper} {a : Act} {w : World} {Q : Exit → Act → World → Prop} (hg : o.guard = none) (x : Operand) (ho : o.op = .buildSlice 26 1 #[(0, x)]) (X : ClaimV) (hX : X.key.c.length = 32 ∧ X.doc.c.length = 32) (hx : a.eval x = .agg (claimC X))
    (h : wpList Tryz.prog ops Q rest (a.put o.dst (.slice (some ⟨w.heap.size, 0, none⟩) 1 1)) (w.alloc (.cells (claimC X) CEr))) : wpList Tryz.prog ops Q (o :: rest) a w :=
  wpList_plain hg fun _ hK => wp_sl_claim x ho X hX hx (hK _ _ h)
theorem sizeZ : (Value.agg (claimC default)).cells.size = clK.k := by kernel_rfl
theorem one_claim (w : World) (x : ClaimV) (hx : ClOk x) : AtG clK (w.alloc (.cells (claimC x) CEr)) (some ⟨w.heap.size, 0, none⟩) 1 1 [x] := oneG w x hx CEr _ rfl

theorem size_alloc_le (w : World) (o : Obj) : w.heap.size ≤ (w.alloc o).heap.size := by simp
/-- A claim with the lengths that it has. -/
abbrev Cl32 : Type := {c : ClaimV // c.key.c.length = 32 ∧ c.doc.c.length = 32}
/-- What has been met so far: of what is no longer to come. -/
def Coll (D : DataW Unit) (left : Lit → Bool) (ss : List ClaimV) : Prop := ss.Nodup ∧ ∀ c, c ∈ ss ↔ (c.kind ≠ 5 ∧ ∃ kl, KlK c.doc kl ∧ Maps.has D kl = true ∧ left kl = false ∧ ∀ zd, D.atKey kl zd = clD c)
theorem Coll.start (D : DataW Unit) : Coll D (Maps.has D) [] := ⟨List.nodup_nil, fun c => by
  constructor
  · intro h; cases h
  · rintro ⟨_, kl, _, h1, h2, _⟩
    rw [h1] at h2; cases h2⟩
section
variable {T ss : List ClaimV} {D : DataW Unit} {left : Lit → Bool} {kl : Lit} {c : ClaimV}
theorem entry_is (hL : LastD T D) (hat : ∀ zd, D.atKey kl zd = clD c) : Maps.has D kl = true ∧ IsLast T c ∧ KlK c.doc kl := by
  have hh := Maps.has_true_of_atKey hat
  obtain ⟨d, h1, h2, h3⟩ := hL.1 kl hh
  have := clD_inj ((hat .nil).symm.trans (h3 .nil))
  subst this
  exact ⟨hh, h1, h2⟩
theorem left_step (hkl : WideAt.IsKeyLit kl) (z : Lit) : (left z && !z.sameKey kl) = false ↔ left z = false ∨ z = kl := by
  constructor
  · intro h
    cases h1 : left z
    · exact .inl rfl
    · rw [h1] at h
      simp only [Bool.true_and, Bool.not_eq_false'] at h
      exact .inr (WideAt.sameKey_eq h)
  · rintro (h | rfl)
    · rw [h]; rfl
    · rw [WideAt.sameKey_self hkl]; simp
theorem Coll.add (h : Coll D left ss) (hL : LastD T D) (hl : left kl = true) (hat : ∀ zd, D.atKey kl zd = clD c) (hk : c.kind ≠ 5) : Coll D (fun z => left z && !z.sameKey kl) (ss ++ [c]) := by
  obtain ⟨hh, hl1, hkc⟩ := entry_is hL hat
  have hkl : WideAt.IsKeyLit kl := lawK.key hkc
  refine ⟨?_, fun x => ?_⟩
  · rw [List.nodup_append]
    refine ⟨h.1, by simp, fun a ha b hb e => ?_⟩
    simp only [List.mem_singleton] at hb
    subst hb; subst e
    obtain ⟨_, kl', h1, _, h2, _⟩ := (h.2 a).1 ha
    rw [h1.same hkc, hl] at h2
    cases h2
  · rw [List.mem_append, h.2 x]
    simp only [List.mem_singleton]
    constructor
    · rintro (⟨h1, kl', h2, h3, h4, h5⟩ | rfl)
      · exact ⟨h1, kl', h2, h3, (left_step hkl kl').2 (.inl h4), h5⟩
      · exact ⟨hk, kl, hkc, hh, (left_step hkl kl).2 (.inr rfl), hat⟩
    · rintro ⟨h1, kl', h2, h3, h4, h5⟩
      rcases (left_step hkl kl').1 h4 with h6 | rfl
      · exact .inl ⟨h1, kl', h2, h3, h6, h5⟩
      · exact .inr (clD_inj ((h5 .nil).symm.trans (hat .nil)))
theorem Coll.skip (h : Coll D left ss) (hL : LastD T D) (hat : ∀ zd, D.atKey kl zd = clD c) (hk : c.kind = 5) : Coll D (fun z => left z && !z.sameKey kl) ss := by
  obtain ⟨hh, hl1, hkc⟩ := entry_is hL hat
  have hkl : WideAt.IsKeyLit kl := lawK.key hkc
  refine ⟨h.1, fun x => ?_⟩
  rw [h.2 x]
  constructor
  · rintro ⟨h1, kl', h2, h3, h4, h5⟩
    exact ⟨h1, kl', h2, h3, (left_step hkl kl').2 (.inl h4), h5⟩
  · rintro ⟨h1, kl', h2, h3, h4, h5⟩
    rcases (left_step hkl kl').1 h4 with h6 | rfl
    · exact ⟨h1, kl', h2, h3, h6, h5⟩
    · have := clD_inj ((h5 .nil).symm.trans (hat .nil))
      subst this
      exact absurd hk h1
theorem Coll.docs (h : Coll D left ss) : ∀ a ∈ ss, ∀ b ∈ ss, a.doc = b.doc → a = b := fun a ha b hb e => by
  obtain ⟨_, k1, h1, _, _, h2⟩ := (h.2 a).1 ha
  obtain ⟨_, k2, h3, _, _, h4⟩ := (h.2 b).1 hb
  rw [e] at h1
  obtain rfl := h1.same h3
  exact clD_inj ((h2 .nil).symm.trans (h4 .nil))
theorem Coll.shown {L : List ClaimV} (h : Coll D left ss) (hl0 : ∀ kl, left kl = false) (hL : LastD T D) (hC : Counts L T) (hk : ∀ c ∈ L, ∃ l, KlK c.doc l) : Shown L (sortA ss) := by
  have hs := sortA_sorted h.1 h.docs
  have hm : ∀ c, c ∈ sortA ss ↔ c ∈ ss := fun c => (sortA_perm ss).mem_iff
  rcases hC with ⟨hR, rfl⟩ | ⟨hR, rfl⟩
  · refine .inl ⟨hR, hs, fun c => ?_⟩
    rw [hm, h.2 c]
    constructor
    · rintro ⟨h1, kl, _, _, _, h2⟩
      exact ⟨(entry_is hL h2).2.1, h1⟩
    · rintro ⟨h1, h2⟩
      obtain ⟨kl, hkl⟩ := hk c h1.1
      obtain ⟨h3, d, h4, h5, h6⟩ := hL.some_ h1.1 hkl
      obtain rfl := h4.uniq hR h1 h5
      exact ⟨h2, kl, hkl, h3, hl0 kl, h6⟩
  · refine .inr ⟨hR, List.eq_nil_iff_forall_not_mem.2 fun c hc => ?_⟩
    obtain ⟨_, kl, _, _, _, h2⟩ := (h.2 c).1 ((hm c).1 hc)
    exact List.not_mem_nil (entry_is hL h2).2.1.1
end
def ShownIs (L : List ClaimV) (w : World) (e : Ending) (w' : World) : Prop := ∃ S a c, e = .returned (.slice a S.length c) ∧ Shown L S ∧ AtG clK w' a S.length c S ∧ Below w.heap.size w w'

theorem coll_ok {L T : List ClaimV} {D : DataW Unit} (hL : LastD T D) (hC : Counts L T) (hok : ∀ c ∈ L, ClOk c) {c : ClaimV} (hat : ∃ kl, ∀ zd, D.atKey kl zd = clD c) : ClOk c := by
  obtain ⟨kl, hat⟩ := hat
  have h1 := (entry_is hL hat).2.1.1
  rcases hC with ⟨_, rfl⟩ | ⟨_, rfl⟩
  · exact hok c h1
  · cases h1

set_option maxRecDepth 100000 in
set_option maxHeartbeats 2000000 in
theorem shown_any (a : Option Addr) (n c : Nat) (L : List ClaimV) (w : World) (h : AtG clK w a n c L) (hn : n ≤ 1000) (hl : ∀ c ∈ L, c.path.length ≤ 100000) (hT : PTabs w) :
    Calls Tryz.prog 16 #[.slice a n c] w (ShownIs L w) := by
  obtain ⟨T, hC⟩ : ∃ T, Counts L T := by
    rcases Classical.em (RightR L) with h1 | h1
    · exact ⟨L, .inl ⟨h1, rfl⟩⟩
    · exact ⟨[], .inr ⟨h1, rfl⟩⟩
  have HC := Lib.hid hC
  have HOK := Lib.hid h.2.2.2.1
  have HLS := Lib.hid (lasts_any a n c L T w h hn hl hT hC)
  have HM := Lib.hid hn
  clear h hn hl hT hC
  go_enter Tryz.func16, Tryz.ntmps16
  go_wp2_with (first
    | (go_at_call 22; go_must (refine HLS.out.mono ?_); rintro e w1 ⟨g, k, D, rfl, hg0, hkn, hmap, hlast, hb1⟩; have HMP := Lib.hid hmap; have HLD := Lib.hid hlast; have HB1 := Lib.hid hb1; have HG0 := Lib.hid hg0; have HKN := Lib.hid hkn; clear hg0 hkn hmap hlast hb1)
    | (at_range; go_must (refine wpList_range_own _ rfl _ 59 rfl 35 CEr lawK Tryz.underlying59 clElem g k D rfl HMP.out ?_); intro w2 hrg2 hg2 hs2; have HB2 := Lib.hid (HB1.out.grown hg2 HB1.out.size (fun k hk => by cases hk)); have HS2 := Lib.hid hs2; have HRG2 := Lib.hid hrg2; have HGL := Lib.hid HMP.out.lt; have HBS := Lib.hid HB1.out.size; clear hrg2 hg2 hs2))
  go_frame
  obtain ⟨r, hr⟩ : ∃ r, r = w1.heap.size := ⟨_, rfl⟩
  rw [← hr] at HRG2 HS2 HGL HBS ⊢
  have HSZ := Lib.hid (HRG2.out.owns.size_le)
  have HRB : Hid (w.heap.size ≤ r) := HBS
  have HGR : Hid (g < r) := HGL
  clear hr
  go_loopg [3] (Maps.size D) (fun cnt v3 W => ∃ (left : Lit → Bool) (m : Nat) (a' : Option Addr) (c' : Nat) (ss : List ClaimV), W.ranges Tryz.prog 35 clElem g r k D left cnt ∧ v3 = .slice a' m c' ∧ Hid (OwnG clK CEr W (r + 1) (.slice a' m c') ss) ∧ Hid (Below w.heap.size w W) ∧ Hid (Coll D left ss) ∧ Hid (ss.length + cnt ≤ k) ∧ Hid (r + 1 ≤ W.heap.size))
  case atStart => exact ⟨_, 0, none, 0, [], HRG2.out, rfl, Lib.hid OwnG.nil, HB2, Lib.hid (Coll.start D), Lib.hid (by rw [List.length_nil]; have := HSZ.out; omega), Lib.hid (by have := HS2.out; omega)⟩
  case round =>
    obtain ⟨left, m, a', c', ss, hrg, rfl, HO, HB, HCO, HCN, HSR⟩ := hrel
    have HRG := Lib.hid hrg
    clear hrg
    go_wp2_with (at_next; go_must (refine wpList_next_ranges _ rfl _ rfl 35 lawK clElem (fun v : Value => v) (fun c : Cl32 => .agg (claimC c.1)) (fun key kl _ => ⟨key, rfl⟩) (fun v y hv => by obtain ⟨c, h1, h2, _⟩ := clElem_inv hv; exact ⟨⟨c, h1⟩, h2⟩) g r k D left gk rfl HRG.out ?_ ?_))
    · intro _ hl0
      have HSH := Lib.hid (HCO.out.shown hl0 HLD.out HC.out (fun c hc => (HOK.out c hc).2.2.2.1))
      have HLN := Lib.hid HO.out.len
      rcases Nat.eq_zero_or_pos m with h0 | h0
      · subst h0
        have HSS : Hid (ss = []) := Lib.hid (List.length_eq_zero_iff.1 HLN.out)
        clear hl0
        go_wp2_with (go_at_call 24; go_must (refine (Tryz.sortClaims_none _ _ _ _).mono ?_); rintro e w3 ⟨rfl, rfl⟩)
        go_ret
        have e : sortA ss = [] := by
          have := (sortA_perm ss).length_eq
          rw [HSS.out] at this ⊢
          exact List.length_eq_zero_iff.1 this
        have hsh := HSH.out
        rw [e] at hsh
        have hat := HO.out.atG
        rw [HSS.out] at hat
        exact ⟨[], a', c', rfl, hsh, hat, HB.out⟩
      · have HST := Lib.hid (fun w hO => sort_claims ss HCO.out.docs (a'.get!).block m c' (r + 1) w hO h0 (by have := HCN.out; have := HKN.out; have := HM.out; have := HLN.out; omega))
        obtain ⟨g3, rfl, hg3, _, _⟩ := HO.out.row h0
        have HSO := Lib.hid (HST.out _ HO.out)
        clear hl0 hg3 h0 HST
        go_wp2_with (go_at_call 24; go_must (refine HSO.out.mono ?_); rintro e w3 ⟨rfl, hat, hbl⟩)
        go_ret
        have hl2 : (sortA ss).length = m := by rw [(sortA_perm ss).length_eq]; exact HLN.out
        refine ⟨sortA ss, some ⟨g3, 0, none⟩, c', by rw [hl2]; rfl, HSH.out, by rw [hl2]; exact hat, ?_⟩
        exact (hbl wr ⟨rfl, rfl, rfl, Nat.le_refl _, fun _ _ => rfl⟩ HSR.out) |> fun hb => HB.out.trans (hb.mono (by have := HRB.out; omega))
    · intro x X hXa hXb kl yd yp w3 cnt3 _ hlk hv hat hrg3 hlt hg3 hs3 hen
      have hX : X.key.c.length = 32 ∧ X.doc.c.length = 32 := ⟨hXa, hXb⟩
      have hen2 : (Instr.entry (.pointer (some ⟨r, 0, none⟩))).run Tryz.prog w3 = .ok (.tuple #[x, .agg (claimC X)]) w3 := hen
      have hyc : (yd, yp) = (clD X, []) := by exact (Option.some.inj ((clElem_mk hX).symm.trans hv)).symm
      obtain rfl : yd = clD X := congrArg Prod.fst hyc
      have HAT : Hid (∀ zd, D.atKey kl zd = clD X) := Lib.hid hat
      have HLK := Lib.hid hlk
      have HLT := Lib.hid hlt
      have HXC := Lib.hid hX
      have HXO := Lib.hid (coll_ok HLD.out HC.out HOK.out ⟨kl, hat⟩)
      have HR3 := Lib.hid hrg3
      have hne3 : (Value.slice a' m c').ownBlock = none ∨ (Value.slice a' m c').ownBlock ≠ some r := by
        rcases Option.eq_none_or_eq_some (Value.slice a' m c').ownBlock with e | ⟨q, e⟩
        · exact .inl e
        · refine .inr (fun e2 => ?_)
          have := (HO.out.lt q e).1
          rw [e] at e2
          have := Option.some.inj e2
          omega
      have HO3 := Lib.hid (HO.out.kept hg3 hne3)
      have HB3 := Lib.hid (HB.out.grown hg3 HB.out.size (fun q hq => by cases hq; exact HRB.out))
      have HS3 : Hid (r + 1 ≤ w3.heap.size) := Lib.hid (by have := HSR.out; omega)
      have HN3 := Lib.hid HO.out.len
      obtain ⟨kd, hkd⟩ : ∃ kd, X.kind = kd := ⟨_, rfl⟩
      have HKD := Lib.hid hkd
      have HX := Lib.hid (fun W g (hA : ClaimAt W g X) => (hkd ▸ hA.kind : W.cell? ⟨g, 68, none⟩ = some (.int .u8 (kd : Int))))
      clear hlk hv hat hrg3 hlt hg3 hs3 hX hne3 hkd hen
      by_cases h5 : kd = 5
      · subst h5
        go_wp2_with ((with_reducible show wpList _ _ _ (⟨_, Op.store _ (.tmp 5) _, _, _, _, _⟩ :: _) _ _); go_must (refine store_claim rfl rfl _ _ rfl X HXC.out rfl rfl ?_); intro W4 hnd hb4 hs4; have HB4 := Lib.hid (HB3.out.trans (hb4.mono HB3.out.size)); have HO4 := Lib.hid (HO3.out.below hb4); have HR4 := Lib.hid (HR3.out.kept (row := none) ⟨hb4.os, hb4.tape, hb4.output, hb4.size, fun k hk _ => hb4.block k hk⟩ (by simp) (by simp)); have HS4 := Lib.hid (Nat.le_trans HS3.out hb4.size); have ck := HX.out _ _ hnd; clear hnd hb4 hs4)
        go_roundg cnt3
        case measure => exact HLT.out
        case rel => exact ⟨_, m, a', c', ss, HR4.out, rfl, HO4, HB4, Lib.hid (HCO.out.skip HLD.out HAT.out HKD.out), Lib.hid (by have := HCN.out; have := HLT.out; omega), HS4⟩
      · have d5 : ((kd : Int) != 5) = true := by simp; omega
        have HH48 : Hid ((ss.length + 1) * (120 + 1) ≤ 140737488355328) := Lib.hid (by have := HCN.out; have := HKN.out; have := HM.out; omega)
        have HRL : Hid (m + 1 = ss.length + 1) := Lib.hid (by rw [HN3.out])
        have H5 : Hid (X.kind ≠ 5) := Lib.hid (by rw [HKD.out]; exact h5)
        clear h5
        go_wp2_with (first
          | ((with_reducible show wpList _ _ _ (⟨_, Op.store _ (.tmp 5) _, _, _, _, _⟩ :: _) _ _); go_must (refine store_claim rfl rfl _ _ rfl X HXC.out rfl rfl ?_); intro W4 hnd hb4 hs4; have HB4 := Lib.hid (HB3.out.trans (hb4.mono HB3.out.size)); have HO4 := Lib.hid (HO3.out.below hb4); have HR4 := Lib.hid (HR3.out.kept (row := none) ⟨hb4.os, hb4.tape, hb4.output, hb4.size, fun k hk _ => hb4.block k hk⟩ (by simp) (by simp)); have HS4 := Lib.hid (Nat.le_trans HS3.out hb4.size); have ck := HX.out _ _ hnd; have HND := Lib.hid hnd; clear hnd hb4 hs4)
          | ((with_reducible show wpList _ _ _ (⟨some 17, _, _, _, _, _⟩ :: _) _ _); go_must (refine wl_ex rfl (exec_loadClaim _ rfl _ _ X HXC.out rfl HND.out.all) ?_))
          | ((with_reducible show wpList _ _ _ (⟨some 18, _, _, _, _, _⟩ :: _) _ _); go_must (refine sl_claim rfl _ rfl X HXC.out rfl ?_); have HB5 := Lib.hid (HB4.out.alloc HB4.out.size (.cells (claimC X) CEr)); have HO5 := Lib.hid (HO4.out.alloc (.cells (claimC X) CEr)); have HR5 := Lib.hid (HR4.out.alloc (.cells (claimC X) CEr)); have HS5 := Lib.hid (Nat.le_trans HS4.out (size_alloc_le W4 (.cells (claimC X) CEr))); have HA5 := Lib.hid (one_claim W4 X HXO.out))
          | ((with_reducible show wpList _ _ _ (⟨some 19, _, _, _, _, _⟩ :: _) _ _); go_must (refine appG clK Tryz.underlying26 infoCl sizeZ rfl _ _ rfl (r + 1) _ ss rfl HO5.out _ 1 1 [X] rfl HA5.out HH48.out HS5.out (m + 1) HRL.out ?_); intro a6 c6 W6 ho6 hg6))
        have hne6 : ∀ q, q < r + 1 → some q ≠ (Value.slice a' m c').ownBlock := fun q hq e => by
          have := (HO5.out.lt q e.symm).1
          omega
        have HR6 := Lib.hid (HR5.out.kept hg6 (hne6 g (by have := HGR.out; omega)) (hne6 r (by omega)))
        have HB6 := Lib.hid (HB5.out.grown hg6 HB5.out.size (fun q hq => by have := (HO5.out.lt q hq).1; have := HRB.out; omega))
        have HS6 := Lib.hid (Nat.le_trans HS5.out hg6.size)
        have HO6 := Lib.hid ho6
        clear hg6 ho6 hne6
        go_roundg cnt3
        case measure => exact HLT.out
        case rel => exact ⟨_, m + 1, a6, c6, ss ++ [X], HR6.out, rfl, HO6, HB6, Lib.hid (HCO.out.add HLD.out HLK.out HAT.out H5.out), Lib.hid (by rw [List.length_append, List.length_singleton]; have := HCN.out; have := HLT.out; omega), HS6⟩
#print axioms shown_any
end Go.Proofs.YtipoielcmaegaaaGreatDoor

namespace Go.Proofs.YtipoielcmaegaaaGreatDoor
open Go.RowKit Go.Maps

/-- A document with its path: its cells. -/
abbrev NamedV : Type := KeyV × List UInt8
def nmL (x : NamedV) : List Value := keyL x.1 ++ [.string (strB x.2)]
def nmC (x : NamedV) : Array Value := (nmL x).toArray
theorem nmL_len {x : NamedV} (h : x.1.c.length = 32) : (nmL x).length = 35 := by simp [nmL, keyL_length h]
theorem nmL_one (x : NamedV) : ∀ v ∈ nmL x, v.oneCell' = true := fun v hv => by
  unfold nmL keyL at hv
  simp only [List.mem_cons, List.mem_append, List.mem_map, List.not_mem_nil, or_false] at hv
  rcases hv with (rfl | ⟨b, _, rfl⟩ | rfl) | rfl <;> rfl
def nmK : Kind NamedV := ⟨nmL, 35, fun x => x.1.c.length = 32, by omega, fun _ h => nmL_len h, fun x _ => nmL_one x⟩
abbrev NEr : TypeId := 37
theorem infoNm : (Tryz.prog.info? NEr).map (fun i => (i.zero, i.size, i.bytes)) = some (some (.agg (nmC default)), 35, 64) := by kernel_rfl
theorem sizeNZ : (Value.agg (nmC default)).cells.size = nmK.k := by kernel_rfl
section
variable {w : World} {b off n c j : Nat} {L : List NamedV}
theorem nm_doc (h : AtG nmK w (some ⟨b, off, none⟩) n c L) (hj : j < n) : w.rangeAt b (off + j * 35) (keyL (gd L j).1) := fun i v hv => by
  refine h.at_ j hj i v ?_
  show (nmL (gd L j))[i]? = some v
  unfold nmL
  rw [List.getElem?_append_left (List.getElem?_eq_some_iff.1 hv).1]
  exact hv
theorem nm_path (h : AtG nmK w (some ⟨b, off, none⟩) n c L) (hj : j < n) : w.cell? ⟨b, off + j * 35 + 34, none⟩ = some (.string (strB (gd L j).2)) := by
  refine h.at_ j hj 34 _ ?_
  have h1 := keyL_length (h.ok hj)
  show (nmL (gd L j))[34]? = _
  unfold nmL
  rw [List.getElem?_append_right (by omega), h1]; rfl
end
theorem fill_named (x : NamedV) (hx : x.1.c.length = 32) (z : Value) (hz : z = .agg (nmC default)) : Instr.fill (fun i => some (i * 35, 35)) ((Array.range (1 * 35)).map (z.cells[· % z.cells.size]!)) [(0, .agg (nmC x))] = some (nmC x) := by
  subst hz
  obtain ⟨⟨t, c, i⟩, p⟩ := x
  obtain ⟨b0, b1, b2, b3, b4, b5, b6, b7, b8, b9, b10, b11, b12, b13, b14, b15, b16, b17, b18, b19, b20, b21, b22, b23, b24, b25, b26, b27, b28, b29, b30, b31, rfl⟩ := list32 hx
  kernel_rfl
theorem built_named (k : KeyV) (hk : k.c.length = 32) (p : List UInt8) : Tryz.prog.built NEr [(0, .agg (keyC k)), (1, .string (strB p))] = some (nmC (k, p)) := by
  obtain ⟨t, c, i⟩ := k
  obtain ⟨b0, b1, b2, b3, b4, b5, b6, b7, b8, b9, b10, b11, b12, b13, b14, b15, b16, b17, b18, b19, b20, b21, b22, b23, b24, b25, b26, b27, b28, b29, b30, b31, rfl⟩ := list32 hk
  kernel_rfl
theorem exec_build {w : World} {o : Oper} {a : Act} (t : TypeId) (parts : Array (Nat × Operand)) (ho : o.op = .build t parts) (cells : Array Value)
    (h : Tryz.prog.built t (parts.map fun (i, x) => (i, a.eval x)).toList = some cells) : (execOp a.eval o).run Tryz.prog w = .ok (.value (.agg cells)) w := by
  unfold execOp
  simp only [ho, Sem.run_bind, run_build w t _ cells h, Result.andThen_ok, Sem.run_pure]
theorem exec_named {w : World} {o : Oper} {a : Act} (x0 x1 : Operand) (ho : o.op = .build NEr #[(0, x0), (1, x1)]) (k : KeyV) (hk : k.c.length = 32) (p : List UInt8) (s : ByteArray) (hs : s = strB p)
    (h0 : a.eval x0 = .agg (keyC k)) (h1 : a.eval x1 = .string s) : (execOp a.eval o).run Tryz.prog w = .ok (.value (.agg (nmC (k, p)))) w := by
  subst hs
  refine exec_build _ _ ho _ ?_
  have e : (#[(0, x0), (1, x1)].map fun (q : Nat × Operand) => (q.1, a.eval q.2)).toList = [(0, .agg (keyC k)), (1, .string (strB p))] := by simp [h0, h1]
  exact (congrArg _ e).trans (built_named k hk p)
theorem sl_named {ops : Array Oper} {rest : List Oper} {o : Oper} {a : Act} {w : World} {Q : Exit → Act → World → Prop} (hg : o.guard = none) (x : Operand) (ho : o.op = .buildSlice 24 1 #[(0, x)]) (X : NamedV) (hX : X.1.c.length = 32) (hx : a.eval x = .agg (nmC X))
    (h : wpList Tryz.prog ops Q rest (a.put o.dst (.slice (some ⟨w.heap.size, 0, none⟩) 1 1)) (w.alloc (.cells (nmC X) NEr))) : wpList Tryz.prog ops Q (o :: rest) a w :=
  wpList_plain hg fun _ hK => by
    obtain ⟨i0, hi, hz0, hz1, hz2⟩ := info_parts infoNm
    refine wp_buildSlice 24 NEr 1 #[(0, x)] ho (nmC X) i0 _ Tryz.underlying24 hi hz0 (by rw [hz1]; decide) (by rw [hz1]; decide) ?_ (hK _ _ h)
    rw [hz1]
    have e : (#[(0, x)].map fun (p : Nat × Operand) => (p.1, a.eval p.2)).toList = [(0, .agg (nmC X))] := by simp [hx]
    exact (congrArg (Instr.fill (fun i => some (i * 35, 35)) _) e).trans (fill_named X hX _ rfl)
theorem one_named (w : World) (x : NamedV) (hx : x.1.c.length = 32) : AtG nmK (w.alloc (.cells (nmC x) NEr)) (some ⟨w.heap.size, 0, none⟩) 1 1 [x] := oneG w x hx NEr _ rfl

/-- Rows of unlike elements lie in unlike blocks. -/
theorem own_ne {w : World} {base base' : Nat} {E E' : TypeId} {k k' : Nat} {v v' : Value} {n n' : Nat} {xs xs' : List Value} (h : w.ownsRow base E k v n xs) (h' : w.ownsRow base' E' k' v' n' xs') (hE : E ≠ E') : v.ownBlock = none ∨ v.ownBlock ≠ v'.ownBlock := by
  obtain ⟨_, h2⟩ := h
  obtain ⟨_, h2'⟩ := h'
  rcases h2 with ⟨rfl, _⟩ | ⟨g, cap, cur, rfl, _, hg, _⟩
  · exact .inl rfl
  · refine .inr (fun e => ?_)
    rcases h2' with ⟨rfl, _⟩ | ⟨g', cap', cur', rfl, _, hg', _⟩
    · simp [Value.ownBlock] at e
    · simp only [Value.ownBlock, Option.some.injEq] at e
      subst e
      rw [hg] at hg'
      simp only [Option.some.injEq, Obj.cells.injEq] at hg'
      exact hE hg'.2.1
theorem freshR_some (s : List UInt8) (ts : List (List UInt8)) (h : ts.length < 1000000000) : ∃ r, FreshR s ts r := by
  cases hc : clashesF s ts
  · exact ⟨s, .inl ⟨hc, rfl⟩⟩
  · obtain ⟨n, hn, _⟩ := fresh_exists s ts (by omega)
    exact ⟨numF s n, .inr ⟨hc, n, hn, rfl⟩⟩
def PathsIs (L : List ClaimV) (w : World) (e : Ending) (w' : World) : Prop := ∃ S P a c, e = .returned (.slice a S.length c) ∧ Shown L S ∧ PathsTo S P ∧ AtG nmK w' a S.length c (zipN S P) ∧ Below w.heap.size w w'

set_option maxRecDepth 100000 in
set_option maxHeartbeats 2000000 in
theorem paths_any (a : Option Addr) (n c : Nat) (L : List ClaimV) (w : World) (h : AtG clK w a n c L) (hn : n ≤ 60) (hl : ∀ c ∈ L, c.path.length ≤ 100000) (hT : PTabs w) :
    Calls Tryz.prog 6 #[.slice a n c] w (PathsIs L w) := by
  have HSH := Lib.hid (shown_any a n c L w h (by omega) hl hT)
  have HL := Lib.hid h.1
  have HM := Lib.hid hn
  have HT := Lib.hid hT
  have HNE := Lib.hid (show 9 ≠ NEr by decide)
  have HNE2 := Lib.hid (show NEr ≠ 9 by decide)
  clear h hn hl hT
  go_enter Tryz.func6, Tryz.ntmps6
  go_wp2_with (go_at_call 16; go_must (refine HSH.out.mono ?_); rintro e w1 ⟨S, a1, c1, rfl, hsh, hat, hb1⟩; have HS := Lib.hid hsh; have HA := Lib.hid hat; have HB1 := Lib.hid hb1; clear hsh hat hb1)
  obtain ⟨m, hm⟩ : ∃ m, S.length = m := ⟨_, rfl⟩
  rw [hm] at HA ⊢
  have HSL := Lib.hid hm
  have HM60 := Lib.hid (show m ≤ 60 by have := HS.out.length; have := HL.out; have := HM.out; omega)
  have HSP := Lib.hid (fun c hc => HS.out.path (c := c) hc)
  have hmI : (m : Int) ≤ 60 := by have := HM60.out; omega
  clear hm
  go_loopg [3, 4, 11] m (fun g v3 v4 v11 W => ∃ (i : Nat) (a3 : Option Addr) (c3 : Nat) (a4 : Option Addr) (c4 : Nat) (P : List (List UInt8)), v11 = .int .i64 i ∧ g + i = m ∧ v3 = .slice a3 i c3 ∧ v4 = .slice a4 i c4 ∧ Hid (Below w1.heap.size w1 W) ∧ Hid (PathsTo (S.take i) P) ∧ Hid (OwnG nmK NEr W w1.heap.size (.slice a3 i c3) (zipN (S.take i) P)) ∧ Hid (Own1 St 9 W w1.heap.size (.slice a4 i c4) P))
  case atStart => exact ⟨0, none, 0, none, 0, [], rfl, rfl, rfl, rfl, Lib.hid (Below.refl _ _), Lib.hid (by rw [List.take_zero]; exact pathsTo_nil), Lib.hid (by rw [List.take_zero]; exact OwnG.nil), Lib.hid Own1.nil⟩
  case round =>
    obtain ⟨i, a3, c3, a4, c4, P, rfl, hg, rfl, rfl, HB, HP, HO, HW⟩ := hrel
    have HG := Lib.hid hg
    have hi0 : (0 : Int) ≤ (i : Int) := by omega
    have hiI : (i : Int) ≤ (m : Int) := by omega
    by_cases hi : (i : Int) < (m : Int)
    · have him : i < m := by omega
      have HI := Lib.hid him
      obtain ⟨b, o, rfl⟩ := HA.out.some_ (by omega)
      have HC := Lib.hid ((HA.out.below HB.out).at_ i him)
      obtain ⟨X, hX⟩ : ∃ X, X = gd S i := ⟨_, rfl⟩
      have HX := Lib.hid (hX ▸ HA.out.ok him : ClOk X)
      have HXC : Hid (X.key.c.length = 32 ∧ X.doc.c.length = 32) := Lib.hid ⟨HX.out.1, HX.out.2.1⟩
      have HXE := Lib.hid hX
      have hXm : X ∈ S := by rw [hX]; exact gd_mem (by rw [HSL.out]; exact him)
      have HXP := Lib.hid (HSP.out X hXm)
      rw [← hX] at HC
      have hPl : P.length = i := by rw [HP.out.1, List.length_take, HSL.out]; omega
      obtain ⟨r, hr⟩ := freshR_some X.path P (by have := HM60.out; omega)
      have HFR := Lib.hid hr
      obtain ⟨p, hp⟩ : ∃ p, strB X.path = p := ⟨_, rfl⟩
      have HPX := Lib.hid (fun W g (hA : ClaimAt W g X) => (hp ▸ hA.path : W.cell? ⟨g, 69, none⟩ = some (.string p)))
      have hPS : ∀ j, j < i → (P.getD j default).length ≤ 140737488355328 := fun j hj => by
        have := HP.out.short (fun c hc => HSP.out c (List.mem_of_mem_take hc)) (by rw [List.length_take]; have := HM60.out; omega) (i := j) (by rw [List.length_take, HSL.out]; omega)
        omega
      have HFC := Lib.hid (fun W a c hA hT => fresh_is p r a i c P W hA (by have := HM60.out; omega) (by rw [← hp, strB_size]; have := HXP.out; omega) hPS hT (by rw [← hp, strB_list]; exact hr))
      have HPN := Lib.hid (HP.out.next (m := i) (by rw [HSL.out]; exact him) (r := r) (by rw [show S.getD i default = X from by rw [hX]; rfl]; exact hr))
      have HZN := Lib.hid (show zipN (S.take (i + 1)) (P ++ [r]) = zipN (S.take i) P ++ [(X.doc, r)] by rw [zipN_snoc HP.out (by rw [HSL.out]; exact him), show S.getD i default = X from by rw [hX]; rfl])
      have HZL := Lib.hid (show (zipN (S.take i) P).length = i by rw [zipN_length HP.out, List.length_take, HSL.out]; omega)
      have HPL := Lib.hid hPl
      have HH1 : Hid (((zipN (S.take i) P).length + 1) * (64 + 1) ≤ 140737488355328) := Lib.hid (by rw [HZL.out]; have := HM60.out; omega)
      have HR1 : Hid (i + 1 = (zipN (S.take i) P).length + 1) := Lib.hid (by rw [HZL.out])
      have HH2 : Hid ((P.length + 1) * (16 + 1) ≤ 140737488355328) := Lib.hid (by rw [hPl]; have := HM60.out; omega)
      have HR2 : Hid (i + 1 = P.length + 1) := Lib.hid (by rw [hPl])
      obtain ⟨q, hq⟩ : ∃ q, q = strB r := ⟨_, rfl⟩
      rw [← hq] at HFC
      have HQ := Lib.hid hq
      have HQ2 := Lib.hid (fun W : World => (show At1 St (W.alloc (.cells #[.string q] 9)) (some ⟨W.heap.size, 0, none⟩) 1 1 [r] by
        have := lit_one W q 9
        rw [hq, strB_list] at this
        rw [hq]; exact this))
      clear hg hX hXm hPl hr hp hPS hq
      go_wp2_with (first
        | ((with_reducible show wpList _ _ _ (⟨some 14, _, _, _, _, _⟩ :: _) _ _); go_must (refine wl_ex rfl (exec_loadClaim _ rfl _ _ X HXC.out rfl HC.out) ?_))
        | ((with_reducible show wpList _ _ _ (⟨_, Op.store _ (.tmp 6) _, _, _, _, _⟩ :: _) _ _); go_must (refine store_claim rfl rfl _ _ rfl X HXC.out rfl rfl ?_); intro W2 hnd hb2 hs2; have HB2 := Lib.hid (HB.out.trans (hb2.mono HB.out.size)); have HO2 := Lib.hid (HO.out.below hb2); have HW2 := Lib.hid (HW.out.below hb2); have cp := HPX.out _ _ hnd; have HND := Lib.hid hnd; clear hnd hb2 hs2)
        | (go_at_call 17; go_must (refine (HFC.out _ _ _ HW2.out.at1 (HT.out.below (HB1.out.trans (HB2.out.mono HB1.out.size)))).mono ?_); rintro e w5 ⟨rfl, hb5⟩; have HB5 := Lib.hid (HB2.out.trans (hb5.mono HB2.out.size)); have HO5 := Lib.hid (HO2.out.below hb5); have HW5 := Lib.hid (HW2.out.below hb5); have HN5 := Lib.hid (HND.out.below hb5); clear hb5)
        | ((with_reducible show wpList _ _ _ (⟨some 21, _, _, _, _, _⟩ :: _) _ _); go_must (refine wl_loadKey rfl _ rfl _ _ X.doc HXC.out.2 rfl HN5.out.doc ?_))
        | ((with_reducible show wpList _ _ _ (⟨some 23, _, _, _, _, _⟩ :: _) _ _); go_must (refine wl_ex rfl (exec_named _ _ rfl X.doc HXC.out.2 r q HQ.out rfl rfl) ?_))
        | ((with_reducible show wpList _ _ _ (⟨some 24, _, _, _, _, _⟩ :: _) _ _); go_must (refine sl_named rfl _ rfl (X.doc, r) HXC.out.2 rfl ?_); have HB6 := Lib.hid (HB5.out.alloc HB5.out.size (.cells (nmC (X.doc, r)) NEr)); have HO6 := Lib.hid (HO5.out.alloc (.cells (nmC (X.doc, r)) NEr)); have HW6 := Lib.hid (HW5.out.alloc (.cells (nmC (X.doc, r)) NEr)); have HA6 := Lib.hid (one_named w5 (X.doc, r) HXC.out.2); have HS6 := Lib.hid HB6.out.size)
        | ((with_reducible show wpList _ _ _ (⟨some 25, _, _, _, _, _⟩ :: _) _ _); go_must (refine appG nmK Tryz.underlying24 infoNm sizeNZ rfl _ _ rfl w1.heap.size _ (zipN (S.take i) P) rfl HO6.out _ 1 1 [(X.doc, r)] rfl HA6.out HH1.out HS6.out (i + 1) HR1.out ?_); intro a7 c7 W7 ho7 hg7; have HB7 := Lib.hid (HB6.out.grown hg7 HB6.out.size (fun k hk => (HO6.out.lt k hk).1)); have HW7 := Lib.hid (HW6.out.kept hg7 (own_ne HW6.out HO6.out.1 HNE.out)); have HO7 := Lib.hid ho7; have HS7 := Lib.hid (Nat.le_trans HB7.out.size (size_alloc_le W7 (.cells #[.string q] 9))); have HO8 := Lib.hid (HO7.out.alloc (.cells #[.string q] 9)); have HW8 := Lib.hid (HW7.out.alloc (.cells #[.string q] 9)); have HB8 := Lib.hid (HB7.out.alloc HB7.out.size (.cells #[.string q] 9)); clear ho7 hg7)
        | ((with_reducible show wpList _ _ _ (⟨some 29, _, _, _, _, _⟩ :: _) _ _); go_must (refine app1 St (fun _ => rfl) Tryz.underlying50 infoSt rfl rfl _ _ rfl w1.heap.size _ P rfl HW8.out _ 1 1 [r] rfl (HQ2.out _) HH2.out HS7.out (i + 1) HR2.out ?_); intro a9 c9 W9 ho9 hg9; have HB9 := Lib.hid (HB8.out.grown hg9 HB8.out.size (fun k hk => (HW8.out.lt k hk).1)); have HO9 := Lib.hid (HO8.out.kept hg9 (own_ne HO8.out.1 HW8.out HNE2.out)); have HW9 := Lib.hid ho9; clear ho9 hg9))
      go_roundg (m - (i + 1))
      case measure => have := HG.out; have := HI.out; omega
      case rel => exact ⟨i + 1, a7, c7, a9, c9, P ++ [r], by go_num, by have := HI.out; omega, rfl, rfl, HB9, HPN, Lib.hid (by rw [HZN.out]; exact HO9.out), HW9⟩
    · have him : i = m := by omega
      subst him
      have hp := HP.out
      have ho := HO.out
      rw [List.take_of_length_le (by rw [HSL.out]; exact Nat.le_refl _)] at hp ho
      have HP2 := Lib.hid hp
      have HO2 := Lib.hid ho.atG
      clear hg hp ho
      go_wp2
      go_ret
      exact ⟨S, P, a3, c3, by rw [HSL.out]; rfl, HS.out, HP2.out, by rw [HSL.out]; exact HO2.out, HB1.out.trans (HB.out.mono HB1.out.size)⟩
#print axioms paths_any
end Go.Proofs.YtipoielcmaegaaaGreatDoor
