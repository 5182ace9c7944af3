/-
  The walk of the document's Copy: rows of floats made anew.
-/
import Derived.Test.YtkafeadgjpglaaaScoreAwake
namespace Go.Proofs.Ytkafeadgjpglaaa
open Go.RowKit

/-- A copy, the call's own: all of a slice, appended to an empty one made anew. -/
theorem wl_copyO {w : World} {ops : Array Oper} {rest : List Oper} {o : Oper} {a : Act} {Q : Exit → Act → World → Prop} (hw : Region.wanted o (yielded ops a.tmps) = true) (s x : Operand)
    (ho : o.op = .call { callee := .builtin .append, args := #[s, x], argTypes := #[29, 29] })
    (sa : Option Addr) (n c : Nat) (L : List Nat) (hs : a.eval s = .slice (some ⟨w.heap.size, 0, none⟩) 0 0) (hx : a.eval x = .slice sa n c) (hsrc : At1 F w sa n c L) (hn : n ≤ 1000000000)
    (h : ∀ a' c' w', Own1 F 23 w' w.heap.size (.slice a' n c') L → Below w.heap.size w w' → wpList Try.prog ops Q rest (a.put o.dst (.slice a' n c')) w') : wpList Try.prog ops Q (o :: rest) a (w.alloc (.cells #[] 23)) := by
  have hbel : Below w.heap.size w (w.alloc (.cells #[] 23)) := (Below.refl _ _).alloc (Nat.le_refl _) _
  have hown : Own1 F 23 (w.alloc (.cells #[] 23)) w.heap.size (.slice (some ⟨w.heap.size, 0, none⟩) 0 0) [] := World.ownsRow_lit w #[] 0 (Nat.le_refl _) (Nat.zero_le _) rfl
  have hsz : w.heap.size ≤ (w.alloc (.cells #[] 23)).heap.size := by simp
  obtain ⟨i0, hi, hz0, hz1, hz2⟩ := info_parts infoF
  obtain ⟨h1, h2, h3, h4⟩ := hsrc.below hbel
  have fin : ∀ v' w', (Builtin.append_ #[29, 29] o.type #[.slice (some ⟨w.heap.size, 0, none⟩) 0 0, .slice sa n c]).run Try.prog (w.alloc (.cells #[] 23)) = .ok v' w' →
      Own1 F 23 w' w.heap.size v' L → (w.alloc (.cells #[] 23)).grownBy w' (some w.heap.size) → wpList Try.prog ops Q (o :: rest) a (w.alloc (.cells #[] 23)) := by
    intro v' w' hr hO hg
    obtain ⟨a', c', rfl, hat⟩ := hO.at1_
    rw [h1] at hr hat hO
    unfold wpList
    rw [if_pos hw]
    refine .inl ?_
    exact Lib.wp_append_run _ s x _ _ ho _ _ hs hx _ _ hr (h a' c' w' hO (hbel.grown hg hsz (fun k hk => by cases hk; exact Nat.le_refl _)))
  rcases h4 with ⟨rfl, rfl⟩ | ⟨b, off, rfl, hc⟩
  · have : L = [] := List.length_eq_zero_iff.1 h1
    subst this
    cases sa with
    | none => exact fin _ _ (run_append_owned_none (P := Try.prog) _ w.heap.size 29 o.type 23 i0 1 Try.underlying29 hi _ 0 _ hown) hown ⟨rfl, rfl, rfl, Nat.le_refl _, fun _ _ _ => rfl⟩
    | some ad =>
      obtain ⟨v', w', hr, h5, h6, _⟩ := run_append_own (P := Try.prog) _ w.heap.size 29 o.type 23 i0 _ 1 8 Try.underlying29 hi hz0 hz1 hz2 rfl (by decide) _ 0 _ hown ad 0 0 [] (by simp) (by simp) (by simp) (by unfold maxLen; omega) (by omega) hsz
      exact fin v' w' hr h5 h6
  · obtain ⟨v', w', hr, h5, h6, _⟩ := run_append_own (P := Try.prog) _ w.heap.size 29 o.type 23 i0 _ 1 8 Try.underlying29 hi hz0 hz1 hz2 rfl (by decide) _ 0 _ hown ⟨b, off, none⟩ n c (L.map F) (by simp [h1]) (fun j u hu => by
      rw [List.getElem?_map] at hu
      have hj : j < L.length := by
        rcases Nat.lt_or_ge j L.length with h | h
        · exact h
        · rw [List.getElem?_eq_none h] at hu; cases hu
      have := hc j (by omega)
      simp only [List.getElem?_eq_getElem hj, Option.map_some, Option.some.injEq] at hu
      subst hu
      rw [Addr.add_lit, this]
      simp [hj]) (fun u hu => by obtain ⟨x, _, rfl⟩ := List.mem_map.1 hu; rfl) (by unfold maxLen; omega) (by omega) hsz
    refine fin v' w' hr ?_ h6
    unfold Own1
    have e : 0 + n = L.length := by omega
    rw [e] at h5
    exact h5


/-- Slices, the call's own. -/
def OwnS (w : World) (base : Nat) (v : Value) (vs : List Value) : Prop := w.ownsRow base 29 1 v vs.length vs
theorem infoS : (Try.prog.info? 29).map (fun i => (i.zero, i.size, i.bytes)) = some (some (.slice none 0 0), 1, 24) := by kernel_rfl
theorem run_slice1 (w : World) (sa : Option Addr) (n c : Nat) : (Instr.buildSlice 39 1 #[(0, .slice sa n c)]).run Try.prog w = .ok (.slice (some ⟨w.heap.size, 0, none⟩) 1 1) (w.alloc (.cells #[.slice sa n c] 29)) := by kernel_rfl

section
variable {w w' : World} {base : Nat} {v : Value} {vs : List Value}
theorem OwnS.nil : OwnS w base (.slice none 0 0) [] := World.ownsRow_nil _ _ _ _
theorem OwnS.alloc (h : OwnS w base v vs) (o : Obj) : OwnS (w.alloc o) base v vs := World.ownsRow.alloc h o
theorem OwnS.lt (h : OwnS w base v vs) : ∀ k, v.ownBlock = some k → base ≤ k ∧ k < w.heap.size := World.ownsRow.lt h
theorem OwnS.below (h : OwnS w base v vs) (hb : Below w.heap.size w w') : OwnS w' base v vs := by
  obtain ⟨h1, h2⟩ := h
  refine ⟨h1, ?_⟩
  rcases h2 with h2 | ⟨g, cap, cur, hv, hg, hh, r⟩
  · exact .inl h2
  · refine .inr ⟨g, cap, cur, hv, hg, ?_, r⟩
    have hlt : g < w.heap.size := by
      rcases Nat.lt_or_ge g w.heap.size with h | h
      · exact h
      · rw [Array.getElem?_eq_none h] at hh; cases hh
    rw [hb.block g hlt]; exact hh
theorem OwnS.form (h : OwnS w base v vs) : ∃ a c, v = .slice a vs.length c ∧ vs.length ≤ c ∧ c ≤ 9223372036854775807 ∧ ((vs.length = 0 ∧ c = 0) ∨ ∃ g, a = some ⟨g, 0, none⟩ ∧ ∀ (j : Nat) (u : Value), vs[j]? = some u → w.cell? ⟨g, 0 + j, none⟩ = some u) := by
  have h0 := h
  obtain ⟨h1, h2⟩ := h
  rcases h2 with ⟨rfl, hn⟩ | ⟨g, cap, cur, rfl, hb, hg, hn, hm, hs, ht⟩
  · exact ⟨none, 0, by rw [hn], by omega, by omega, .inl ⟨hn, rfl⟩⟩
  · refine ⟨_, _, rfl, hn, by unfold maxLen at hm; omega, .inr ⟨g, rfl, fun j u hu => ?_⟩⟩
    have := h0.cells (g := g) rfl j u hu
    rw [Addr.add_lit] at this
    exact this
end

/-- An append of one slice to slices, told. -/
theorem appS_told {w : World} {ops : Array Oper} {rest : List Oper} {o : Oper} {a : Act} {Q : Exit → Act → World → Prop} (hgd : o.guard = none) (s x : Operand)
    (ho : o.op = .call { callee := .builtin .append, args := #[s, x], argTypes := #[39, 39] })
    (base : Nat) (v : Value) (l : List Value) (hs : a.eval s = v) (hown : OwnS w base v l)
    (g : Nat) (ra : Option Addr) (rn rc : Nat) (hx : a.eval x = .slice (some ⟨g, 0, none⟩) 1 1) (hsrc : w.cell? ⟨g, 0, none⟩ = some (.slice ra rn rc))
    (h48 : l.length + 1 ≤ 1000000000) (hbase : base ≤ w.heap.size) (r : Nat) (hr : r = l.length + 1)
    (h : ∀ a' c' w', OwnS w' base (.slice a' r c') (l ++ [.slice ra rn rc]) → w.grownBy w' v.ownBlock → Told w v (.slice a' r c') → wpList Try.prog ops Q rest (a.put o.dst (.slice a' r c')) w') : wpList Try.prog ops Q (o :: rest) a w := by
  obtain ⟨i0, hi, hz0, hz1, hz2⟩ := info_parts infoS
  obtain ⟨v', w', hrn, h5, h6, h7⟩ := run_append_tell (P := Try.prog) w base 39 o.type 29 i0 _ 1 24 Try.underlying39 hi hz0 hz1 hz2 rfl (by decide) v l.length l hown
    ⟨g, 0, none⟩ 1 1 [.slice ra rn rc] (by simp) (fun j u hu => by
      cases j with
      | zero => simp only [List.getElem?_cons_zero, Option.some.injEq] at hu; subst hu; rw [Addr.add_lit]; exact hsrc
      | succ j => simp at hu) (fun u hu => by simp only [List.mem_singleton] at hu; subst hu; rfl) (by unfold maxLen; omega) (by omega) hbase
  have ho' : OwnS w' base v' (l ++ [.slice ra rn rc]) := by
    unfold OwnS
    rw [List.length_append]
    exact h5
  obtain ⟨a', c', rfl, _⟩ := ho'.form
  have e : (l ++ [Value.slice ra rn rc]).length = r := by simp [hr]
  rw [e] at ho' hrn h7
  exact Lib.wpList_append_run w hgd s x _ _ ho _ _ hs hx _ _ hrn (h a' c' w' ho' h6 h7)

/-- The rows of a copy: each its own, apart from the row of rows. -/
def RowsAt (W : World) (v : Value) (M : List (List Nat)) (vs : List Value) (i : Nat) : Prop :=
  ∀ k, k < i → ∃ a1 c1, vs[k]? = some (.slice a1 (M.getD k []).length c1) ∧ Own1 F 23 W 0 (.slice a1 (M.getD k []).length c1) (M.getD k []) ∧ Apart (.slice a1 (M.getD k []).length c1) v
theorem RowsAt.next {W w4 w6 : World} {o : Obj} {base i : Nat} {v v' : Value} {M : List (List Nat)} {vs : List Value} {a' : Option Addr} {c' : Nat} (h : RowsAt W v M vs i) (hv : OwnS W base v vs) (hl : vs.length = i)
    (h4 : Below W.heap.size W w4) (hO : Own1 F 23 w4 W.heap.size (.slice a' (M.getD i []).length c') (M.getD i [])) (hg : (w4.alloc o).grownBy w6 v.ownBlock) (ht : Told (w4.alloc o) v v') :
    RowsAt w6 v' M (vs ++ [.slice a' (M.getD i []).length c']) (i + 1) := by
  intro k hk
  rcases Nat.lt_or_ge k i with hki | hki
  · obtain ⟨a1, c1, h1, h2, h3⟩ := h k hki
    have h5 := (h2.below h4).alloc o
    exact ⟨a1, c1, by rw [List.getElem?_append_left (by omega)]; exact h1, h5.kept hg h3.kept, h3.told ht (fun b hb => (h5.lt b hb).2)⟩
  · obtain rfl : k = i := by omega
    have h5 := (hO.mono (Nat.zero_le _)).alloc o
    have h3 : Apart (.slice a' (M.getD k []).length c') v := fun b hb hb2 => by
      have h6 := (hO.lt b hb).1
      have h7 := (hv.lt b hb2).2
      omega
    exact ⟨a', c', by rw [List.getElem?_append_right (by omega), hl, Nat.sub_self]; rfl, h5.kept hg h3.kept, h3.told ht (fun b hb => (h5.lt b hb).2)⟩

set_option maxRecDepth 100000 in
set_option maxHeartbeats 2000000 in
theorem copyM_any (a : Option Addr) (n c : Nat) (M : List (List Nat)) (w : World) (hM : MatAt w a n c M) (hn : n ≤ 1000) (hm : ∀ r, (M.getD r []).length ≤ 1000) :
    Calls Try.prog 33 #[.slice a n c] w fun e w' => ∃ a1 c1, e = .returned (.slice a1 n c1) ∧ MatAt w' a1 n c1 M ∧ Below w.heap.size w w' := by
  have HM := Lib.hid hM
  have HMM := Lib.hid hm
  have HML := Lib.hid hM.1
  have hnI : (n : Int) ≤ 1000 := by omega
  clear hM hm hn
  go_enter Try.func33, Try.ntmps33
  go_wp2
  go_loopg [3, 4] n (fun g v3 v4 W => ∃ (i : Nat) (a3 : Option Addr) (c3 : Nat) (vs : List Value), v3 = .slice a3 i c3 ∧ v4 = .int .i64 i ∧ g + i = n ∧ Below w.heap.size w W ∧ Hid (OwnS W w.heap.size (.slice a3 i c3) vs) ∧ Hid (vs.length = i) ∧ Hid (RowsAt W (.slice a3 i c3) M vs i))
  case atStart => exact ⟨0, none, 0, [], rfl, rfl, rfl, Below.refl _ _, Lib.hid OwnS.nil, Lib.hid rfl, Lib.hid (fun k hk => by omega)⟩
  case round =>
    obtain ⟨i, a3, c3, vs, rfl, rfl, hg, hbw, HO, HVL, HRW⟩ := hrel
    have HG := Lib.hid hg
    have hi0 : (0 : Int) ≤ (i : Int) := by omega
    have hiI : (i : Int) ≤ (n : Int) := by omega
    have HBW := Lib.hid hbw
    by_cases hi : (i : Int) < (n : Int)
    · have HI := Lib.hid (show i < n by omega)
      obtain ⟨bm, om, rfl⟩ := HM.out.some_ (by omega)
      have HMA := Lib.hid ((HM.out.below hbw).below ((Below.refl wr.heap.size wr).alloc (Nat.le_refl _) (.cells #[] 23)))
      obtain ⟨a1, c1, hc0, hat⟩ := (HM.out.below hbw).row i HI.out
      have hc1 := hc0
      obtain ⟨m, hmm⟩ : ∃ m, m = (M.getD i []).length := ⟨_, rfl⟩
      have HME := Lib.hid hmm
      rw [← hmm] at hc0 hc1 hat
      have HAT := Lib.hid hat
      have HM9 := Lib.hid (show m ≤ 1000000000 by rw [hmm]; have := HMM.out i; omega)
      have hc2 : (wr.alloc (.cells #[] 23)).cell? ⟨bm, om + i, none⟩ = some (.slice a1 m c1) := (((Below.refl wr.heap.size wr).alloc (Nat.le_refl _) (.cells #[] 23)).cell (World.block_lt_of_cell? _ _ hc0)).trans hc0
      have HV48 := Lib.hid (show vs.length + 1 ≤ 1000000000 by rw [HVL.out]; omega)
      have HV1 := Lib.hid (show i + 1 = vs.length + 1 by rw [HVL.out])
      clear hg hbw hat hmm
      go_wp2_with (first
        | ((with_reducible show wpList _ _ _ (⟨some 17, _, _, _, _, _⟩ :: _) _ _); go_must (refine wl_copyO (by rfl) (.tmp 12) (.tmp 16) rfl a1 m c1 (M.getD i []) rfl rfl HAT.out HM9.out ?_); intro a4 c4 w4 hO4 hb4; have HO4 := Lib.hid hO4; have HB4 := Lib.hid hb4; have HS4 := Lib.hid (show (w4.alloc (.cells #[.slice a4 m c4] 29)).cell? ⟨w4.heap.size, 0, none⟩ = some (.slice a4 m c4) by simp); have HV4 := Lib.hid ((HO.out.below hb4).alloc (.cells #[.slice a4 m c4] 29)); have HA4 := Lib.hid ((Below.step HBW.out hb4).alloc (Below.step HBW.out hb4).size (.cells #[.slice a4 m c4] 29)); clear hO4 hb4)
        | ((with_reducible show wpList _ _ _ (⟨some 19, _, _, _, _, _⟩ :: _) _ _); go_must (refine appS_told rfl (.tmp 11) (.tmp 18) rfl w.heap.size _ vs rfl HV4.out w4.heap.size a4 m c4 rfl HS4.out HV48.out HA4.out.size (i + 1) HV1.out ?_); intro a5 c5 w5 hO5 hg5 ht5; have HO5 := Lib.hid hO5; have HG5 := Lib.hid hg5; have HT5 := Lib.hid ht5; clear hO5 hg5 ht5))
      have HB5 := Lib.hid (HA4.out.grown HG5.out HA4.out.size (fun k hk => (HV4.out.lt k hk).1))
      have HR5 := Lib.hid (show RowsAt w5 (.slice a5 (i + 1) c5) M (vs ++ [.slice a4 m c4]) (i + 1) by
        have h := HRW.out.next HO.out HVL.out HB4.out (by rw [← HME.out]; exact HO4.out) HG5.out HT5.out
        rw [← HME.out] at h
        exact h)
      have HL5 := Lib.hid (show (vs ++ [Value.slice a4 m c4]).length = i + 1 by rw [List.length_append, HVL.out]; rfl)
      go_roundg (n - (i + 1))
      case measure => have := HG.out; have := HI.out; omega
      case rel => exact ⟨i + 1, a5, c5, vs ++ [.slice a4 m c4], rfl, by go_num, by have := HI.out; omega, HB5.out, HO5, HL5, HR5⟩
    · have hin : i = n := by omega
      subst hin
      have HMN := Lib.hid (show MatAt wr a3 i c3 M by
        obtain ⟨a6, c6, hv, h1, h2, h3⟩ := HO.out.form
        simp only [Value.slice.injEq] at hv
        obtain ⟨rfl, _, rfl⟩ := hv
        rw [HVL.out] at h1 h3
        refine ⟨HML.out, h1, h2, ?_⟩
        rcases h3 with h3 | ⟨g, rfl, hcell⟩
        · exact .inl h3
        · refine .inr ⟨g, 0, rfl, fun j hj => ?_⟩
          obtain ⟨a7, c7, h4, h5, _⟩ := HRW.out j hj
          exact ⟨a7, c7, hcell j _ h4, h5.at1⟩)
      clear hg
      go_wp2
      go_ret
      exact ⟨_, _, rfl, HMN.out, hbw⟩
end Go.Proofs.Ytkafeadgjpglaaa
