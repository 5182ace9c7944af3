/-
  Plainly: hunks' lines are not empty; how one is told by its last byte. In memory: the lines told and the paths beside the document's hunks.
-/
import Derived.Test.YtfoalaoanpbmeaaDoorGrp20
import Derived.Test.YtfoalaoanpbmeaaDoorHkRefH
namespace Go.Proofs.YtfoalaoanpbmeaaDoor
open Go.RowKit Go.Lib

def NE (H : List HkV) : Prop := ∀ x ∈ H, ∀ s ∈ x.ls, s ≠ []
theorem NE.put {H : List HkV} (h : NE H) (op : Bool) (i j : Nat) {x : Ln} (hx : x ≠ []) : NE (putF H op i j x) := by
  unfold putF
  cases op with
  | true =>
    rw [if_pos rfl]
    intro y hy
    rcases List.mem_append.1 hy with hy | hy
    · exact h y ((List.dropLast_sublist H).subset hy)
    · rw [List.mem_singleton.1 hy]
      intro s hs
      have hl : ∀ s ∈ (H.getLastD default).ls, s ≠ [] := by
        rcases lastD_mem (H := H) with e | e
        · rw [e]; intro s hs; cases hs
        · exact h _ e
      rcases List.mem_append.1 hs with hs | hs
      · exact hl s hs
      · rw [List.mem_singleton.1 hs]; exact hx
  | false =>
    rw [if_neg (by decide)]
    intro y hy
    rcases List.mem_append.1 hy with hy | hy
    · exact h y hy
    · rw [List.mem_singleton.1 hy]
      intro s hs
      have hs' : s ∈ [x] := hs
      rw [List.mem_singleton.1 hs']; exact hx
theorem go_ne (ms : List Int) (a b : List Ln) : ∀ (r : List Int) (K i j : Nat) (op : Bool) (H : List HkV), NE H → NE (hkGo ms a b r K i j op H)
  | [], _, _, _, _, _, h => h
  | m :: r, K, i, j, op, H, h => by
    rw [go_cons]
    split
    · split
      · exact go_ne ms a b r (K + 1) (i + 1) (j + 1) true _ (h.put op i j (by simp))
      · split
        · exact go_ne ms a b r (K + 1) (i + 1) j true _ (h.put op i j (by simp))
        · exact go_ne ms a b r (K + 1) i (j + 1) true _ (h.put op i j (by simp))
    · exact go_ne ms a b r (K + 1) (i + 1) (j + 1) false H h
theorem top_ne (s t : Ln) : NE (topF s t).1 := by
  unfold topF
  have h0 : NE [] := fun x hx => by cases hx
  split
  · split
    · exact h0
    · exact go_ne _ _ _ _ _ _ _ _ _ h0
  · exact h0
theorem suf_ten {s : Ln} (hs : s ≠ []) : hasSuffix s [10] = decide (s.getD (s.length - 1) 0 = 10) := by
  obtain ⟨t, x, rfl⟩ : ∃ t x, s = t ++ [x] := ⟨s.dropLast, s.getLast hs, (List.dropLast_concat_getLast hs).symm⟩
  rw [← hasSuffix_of_drop]
  have h1 : ((t ++ [x]).drop ((t ++ [x]).length - [(10 : UInt8)].length)) = [x] := by simp
  rw [h1]
  have h2 : (t ++ [x]).getD ((t ++ [x]).length - 1) 0 = x := by simp [List.getD_eq_getElem?_getD]
  rw [h2]
  have h3 : decide ([(10 : UInt8)].length ≤ (t ++ [x]).length) = true := decide_eq_true (by simp)
  rw [h3, Bool.true_and]
  by_cases hx : x = 10
  · subst hx; rfl
  · rw [decide_eq_false hx]
    exact beq_eq_false_iff_ne.2 (fun e => hx (List.cons.inj e).1)
theorem end_yes {s : Ln} (hs : s ≠ []) (h : s.getD (s.length - 1) 0 = 10) : endF s = s.take (s.length - 1) := by
  have h1 := suf_ten hs
  rw [decide_eq_true h] at h1
  unfold endF trimSuffix
  rw [h1, if_pos rfl, if_pos rfl]; rfl
theorem end_no {s : Ln} (hs : s ≠ []) (h : ¬ s.getD (s.length - 1) 0 = 10) : endF s = s ++ [92] := by
  have h1 := suf_ten hs
  rw [decide_eq_false h] at h1
  unfold endF
  rw [h1, if_neg (by decide)]
theorem itoa_dec (n : Nat) : itoa (n : Nat) = decDigits n := by
  exact Lib.itoa_nonneg n
theorem headF_eq (f t : Nat) : headF f t = (([64, 32] ++ decDigits f) ++ [32]) ++ decDigits t := by unfold headF; rw [itoa_dec, itoa_dec]
theorem dec_len (n : Nat) (h : n ≤ 1000000) : (decDigits n).length ≤ 21 := by
  rw [← itoa_dec]; exact itoa_length_le _ (by omega) (by omega)

/-- Lines, paths, the document's hunks: none in a block of another one. -/
def RkB (W : World) (base : Nat) (a : Option Addr) (c : Nat) (V : List (HkV × Value)) (v : Value) (acc : List Ln) (u : Value) (T : List Ln) : Prop := Holds W base (hG lnK 9 v acc :: hG lnK 9 u T :: rowR a c V :: V.reverse.map lnH) ∧ ∀ x ∈ V, x.2.oneCell' = true
section
variable {W W' : World} {base b : Nat} {a : Option Addr} {c : Nat} {V : List (HkV × Value)} {v v' u : Value} {acc acc' T : List Ln}
theorem RkB.of (h : RkH W b a c V) (H : Holds W base [hG lnK 9 v acc, hG lnK 9 u T]) (hb : base ≤ b) (hk : ∀ k, v.ownBlock = some k ∨ u.ownBlock = some k → k < b) : RkB W base a c V v acc u T := by
  obtain ⟨H1, H2⟩ := H
  have e1 : ∀ x ∈ (rowR a c V :: V.reverse.map lnH), ∀ k, x.v.ownBlock = some k → b ≤ k := fun x hx k hxk => (h.1.lt hx k hxk).1
  refine ⟨⟨fun x hx => ?_, List.pairwise_cons.2 ⟨fun x hx k hv hxk => ?_, List.pairwise_cons.2 ⟨fun x hx k hv hxk => ?_, h.1.two⟩⟩⟩, h.2⟩
  · rcases List.mem_cons.1 hx with rfl | hx
    · exact H1 _ (by simp)
    · rcases List.mem_cons.1 hx with rfl | hx
      · exact H1 _ (by simp)
      · exact (h.1.mono hb).own x hx
  · rcases List.mem_cons.1 hx with rfl | hx
    · exact (List.pairwise_cons.1 H2).1 _ (by simp) k hv hxk
    · have h1 := e1 x hx k hxk
      have h2 := hk k (.inl hv)
      omega
  · have h1 := e1 x hx k hxk
    have h2 := hk k (.inr hv)
    omega
theorem RkB.below (h : RkB W base a c V v acc u T) (hb : Below W.heap.size W W') : RkB W' base a c V v acc u T := ⟨h.1.below hb, h.2⟩
theorem RkB.own_ (h : RkB W base a c V v acc u T) : OwnG lnK 9 W base v acc := ⟨h.1.own (hG lnK 9 v acc) (List.mem_cons_self ..), fun _ _ => trivial⟩
theorem RkB.rk (h : RkB W base a c V v acc u T) : RkH W base a c V := ⟨h.1.sub ((List.sublist_cons_self _ _).trans (List.sublist_cons_self _ _)), h.2⟩
theorem RkB.two (h : RkB W base a c V v acc u T) : Holds W base [hG lnK 9 v acc, hG lnK 9 u T] := h.1.sub (List.Sublist.cons_cons _ (List.Sublist.cons_cons _ (List.nil_sublist _)))
theorem RkB.grow (h : RkB W base a c V v acc u T) (ho : OwnG lnK 9 W' base v' acc') (hg : W.grownBy W' v.ownBlock) (ht : Told W v v') : RkB W' base a c V v' acc' u T := ⟨h.1.put hg (h' := hG lnK 9 v' acc') ho.1 ht, h.2⟩
/-- The hunk at k: its cells, its lines. -/
theorem RkB.at_ (h : RkB W base a c V v acc u T) {k : Nat} (hk : k < V.length) : ∃ g a2 c2, a = some ⟨g, 0, none⟩ ∧ (gd V k).2 = .slice a2 (gd V k).1.ls.length c2 ∧ W.cell? ⟨g, k * 3, none⟩ = some (.int .i64 ((gd V k).1.f : Nat)) ∧ W.cell? ⟨g, k * 3 + 1, none⟩ = some (.int .i64 ((gd V k).1.t : Nat)) ∧ W.cell? ⟨g, k * 3 + 2, none⟩ = some (.slice a2 (gd V k).1.ls.length c2) ∧ AtG lnK W a2 (gd V k).1.ls.length c2 (gd V k).1.ls := by
  have hr := h.rk.row
  obtain ⟨g, rfl, _, _, _⟩ := hr.row (by omega)
  have hA := hr.atG
  obtain ⟨a2, c2, h1, h2⟩ := (h.rk.ln (gd_mem hk)).atG_
  have e : ∀ i, 0 + k * hkK.k + i = k * 3 + i := fun i => by rw [Nat.zero_add]; rfl
  have c0 := hA.cell k hk 0 _ rfl
  have c1 := hA.cell k hk 1 _ rfl
  have c3 := hA.cell k hk 2 _ rfl
  rw [e] at c0 c1 c3
  rw [h1] at c3
  exact ⟨g, a2, c2, rfl, h1, c0, c1, c3, h2⟩
theorem RkB.line_at {g k n : Nat} {a2 : Option Addr} {c2 f t : Nat} {ls : List Ln} (h : RkB W base (some ⟨g, 0, none⟩) c V v acc u T) (hk : k < V.length) (hy : (gd V k).1 = ⟨f, t, ls⟩) (h2 : (gd V k).2 = .slice a2 n c2) : W.cell? ⟨g, k * 3, none⟩ = some (.int .i64 (f : Nat)) ∧ W.cell? ⟨g, k * 3 + 1, none⟩ = some (.int .i64 (t : Nat)) ∧ W.cell? ⟨g, k * 3 + 2, none⟩ = some (.slice a2 n c2) ∧ AtG lnK W a2 n c2 ls := by
  obtain ⟨g', a3, c3, e0, e1, x0, x1, x2, x3⟩ := h.at_ hk
  cases e0
  rw [hy] at e1 x0 x1 x2 x3
  rw [h2] at e1
  injection e1 with e2 e3 e4
  subst e2; subst e4
  have e5 : n = ls.length := e3
  rw [e5]
  exact ⟨x0, x1, x2, x3⟩
end
/-- What a path's files come to: the paths told so far. -/
theorem look_isX {l : List FileL} {p : Ln} : (lookP l p).isSome = true ∨ (lookP l p).isSome = false := by cases (lookP l p).isSome <;> simp
theorem take_next {P : List Ln} {k : Nat} {p : Ln} (h : P[k]? = some p) : P.take (k + 1) = P.take k ++ [p] ∧ P.drop k = p :: P.drop (k + 1) ∧ k < P.length := by
  have hk : k < P.length := by
    rcases Nat.lt_or_ge k P.length with h1 | h1
    · exact h1
    · rw [List.getElem?_eq_none h1] at h; cases h
  have hp : P[k] = p := by rw [List.getElem?_eq_getElem hk] at h; exact Option.some.inj h
  exact ⟨by rw [List.take_add_one, h]; rfl, by rw [List.drop_eq_getElem_cons hk, hp], hk⟩
theorem few_aux : ∀ (P ps : List Ln), P.Nodup → (∀ p ∈ P, p ∈ ps) → P.length ≤ ps.length
  | [], _, _, _ => Nat.zero_le _
  | p :: P, ps, hn, h => by
    have hp := h p (List.mem_cons_self ..)
    have h1 := few_aux P (ps.erase p) (List.nodup_cons.1 hn).2 (fun q hq => (List.mem_erase_of_ne (fun e => (List.nodup_cons.1 hn).1 (by rw [← e]; exact hq))).2 (h q (List.mem_cons_of_mem _ hq)))
    rw [List.length_erase_of_mem hp] at h1
    have := List.length_pos_of_mem hp
    rw [List.length_cons]; omega
theorem paths_few {P ps : List Ln} (hu : P.Pairwise (fun a b => a < b)) (hm : ∀ p ∈ P, p ∈ ps) : P.length ≤ ps.length :=
  few_aux P ps (hu.imp (fun {a b} h e => by rw [e] at h; exact List.lt_irrefl _ h)) hm
#print axioms top_ne
end Go.Proofs.YtfoalaoanpbmeaaDoor
