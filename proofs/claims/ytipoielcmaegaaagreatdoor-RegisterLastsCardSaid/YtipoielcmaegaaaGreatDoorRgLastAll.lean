/-
  Merged: RegFns, RegRight, RegLasts.
-/
import Derived.Test.YtipoielcmaegaaaGreatDoorRgSortAll
import Derived.Test.YtipoielcmaegaaaGreatDoorPathAwake
namespace Go.Proofs.YtipoielcmaegaaaGreatDoor
open Go.RowKit Go.Maps

/-- A whole struct stored into a block that was made just now. -/
theorem store_newV {E : TypeId} {vs : List Value} (hk : (Tryz.prog.info? E).map (·.size) = some vs.length) (h1 : ∀ v ∈ vs, v.oneCell' = true) {w : World} {cs : Array Value} (hcs : cs.size = vs.length) {ops : Array Oper} {rest : List Oper} {o : Oper} {a : Act} {Q : Exit → Act → World → Prop} (hgd : o.guard = none) (x y : Operand) (ho : o.op = .store E x y)
    (hx : a.eval x = .pointer (some ⟨w.heap.size, 0, none⟩)) (hy : a.eval y = .agg vs.toArray)
    (h : ∀ W, W.heap[w.heap.size]? = some (.cells vs.toArray E (0, 0)) → Below w.heap.size w W → W.heap.size = w.heap.size + 1 → wpList Tryz.prog ops Q rest (a.put o.dst undef) W) : wpList Tryz.prog ops Q (o :: rest) a (w.alloc (.cells cs E)) := by
  have hg := heap_alloc_new w (.cells cs E)
  have hs : vs.toArray.size = vs.length := by simp
  refine wpList_store_row hgd E x y ho w.heap.size vs.toArray hx hy E cs hg (by rw [hs]; exact hk) (by rw [hs, hcs]) ?_ (h _ (setRow_heap _ _ cs vs.toArray _ _ hg) ?_ ?_)
  · rw [Array.all_eq_true_iff_forall_mem]
    intro v hv
    exact h1 v (by simpa using hv)
  · refine ⟨rfl, rfl, rfl, by simp [World.setRow], fun k hk => ?_⟩
    unfold World.setRow
    rw [Array.getElem?_modify, if_neg (by omega)]
    exact heap_alloc_old (h := hk) ..
  · simp [World.setRow]
theorem info70 : (Tryz.prog.info? CEr).map (·.size) = some 70 := by kernel_rfl
/-- .. a claim. -/
theorem store_claim {w : World} {cs : Array Value} (hcs : cs.size = 70) {ops : Array Oper} {rest : List Oper} {o : Oper} {a : Act} {Q : Exit → Act → World → Prop} (hgd : o.guard = none) (x y : Operand) (ho : o.op = .store CEr x y) (X : ClaimV) (hX : X.key.c.length = 32 ∧ X.doc.c.length = 32)
    (hx : a.eval x = .pointer (some ⟨w.heap.size, 0, none⟩)) (hy : a.eval y = .agg (claimC X))
    (h : ∀ W, ClaimAt W w.heap.size X → Below w.heap.size w W → W.heap.size = w.heap.size + 1 → wpList Tryz.prog ops Q rest (a.put o.dst undef) W) : wpList Tryz.prog ops Q (o :: rest) a (w.alloc (.cells cs CEr)) :=
  store_newV (vs := claimL X) (by rw [claimL_len hX.1 hX.2]; exact info70) (claimL_one X) (by rw [claimL_len hX.1 hX.2, hcs]) hgd x y ho hx hy (fun W h1 h2 h3 => h W ⟨hX, h1⟩ h2 h3)
theorem wl_ex {w : World} {ops : Array Oper} {rest : List Oper} {o : Oper} {a : Act} {Q : Exit → Act → World → Prop} {v : Value} (hw : Region.wanted o (yielded ops a.tmps) = true) (hr : (execOp a.eval o).run Tryz.prog w = .ok (.value v) w)
    (h : wpList Tryz.prog ops Q rest (a.put o.dst v) w) : wpList Tryz.prog ops Q (o :: rest) a w := by
  unfold wpList
  rw [if_pos hw]
  exact .inl (by unfold Oper.wp; rw [hr]; exact h)
theorem exec_loadClaim {w : World} {o : Oper} {a : Act} (x : Operand) (ho : o.op = .load CEr x) (b off : Nat) (X : ClaimV) (hX : X.key.c.length = 32 ∧ X.doc.c.length = 32) (hx : a.eval x = .pointer (some ⟨b, off, none⟩)) (hc : w.rangeAt b off (claimL X)) :
    (execOp a.eval o).run Tryz.prog w = .ok (.value (.agg (claimC X))) w := by
  have hr := run_loadVar_mid (P := Tryz.prog) w b off CEr (claimL X) _ hc Tryz.underlying40 rfl (by rw [claimL_len hX.1 hX.2]; exact info70)
  unfold execOp
  simp only [ho, hx, Instr.loadAt, Instr.sureAddr, Sem.run_bind, Sem.run_pure, Result.andThen_ok, hr]
  rfl
theorem keys_is (a b : KeyV) (z : Int) (hz : keyF a b = z) (w : World) (ha : a.c.length = 32) (hb : b.c.length = 32) : Calls Tryz.prog 26 #[.agg (keyC a), .agg (keyC b)] w fun e w' => e = .returned (.int .i64 z) ∧ Below w.heap.size w w' := by
  subst hz; exact keys_any a b w ha hb

theorem map_below {k : TypeId} {R : Value → Option (DataW Unit × List MemPlace)} {b n : Nat} {D : DataW Unit} {w w' : World} (h : w.ownsMap Tryz.prog k R b n D) (hb : Below w.heap.size w w') : w'.ownsMap Tryz.prog k R b n D :=
  h.kept (row := none) ⟨hb.os, hb.tape, hb.output, hb.size, fun k hk _ => hb.block k hk⟩ (by simp)

set_option maxRecDepth 100000 in
set_option maxHeartbeats 1000000 in
theorem right1_any (c : ClaimV) (q : Bool) (hq : claimOk c = q) (w : World) (hc : c.key.c.length = 32 ∧ c.doc.c.length = 32) (hl : c.path.length ≤ 100000) (hT : PTabs w) :
    Calls Tryz.prog 19 #[.agg (claimC c)] w fun e w' => e = .returned (.bool q) ∧ Below w.heap.size w w' := by
  have h1 := claimAt_new w c hc
  have HX := Lib.hid h1
  have HB := Lib.hid ((Below.refl w.heap.size w).alloc (Nat.le_refl _) (.cells (claimC c) CEr))
  have ck := h1.kind
  have cp := h1.path
  obtain ⟨p, hp⟩ : ∃ p, pathF c.path = p := ⟨_, rfl⟩
  have HP := Lib.hid (fun W hT => path_is (strB c.path) p W (by rw [strB_size]; omega) hT (by rw [strB_list]; exact hp))
  have HT := Lib.hid (hT.below HB.out).tabs
  obtain ⟨n, hn⟩ : ∃ n, c.kind = n := ⟨_, rfl⟩
  obtain ⟨s, hs⟩ : ∃ s, strB c.path = s := ⟨_, rfl⟩
  rw [hn] at ck
  rw [hs] at cp HP
  have hok : claimOk c = (((n == 3 || n == 4) && p) || (n == 5 && c.path == [])) := by unfold claimOk; rw [hn, hp]
  rw [hok] at hq
  have hs0 : (s.toList == []) = (c.path == []) := by rw [← hs, Lib.toList_data, strB_list]
  clear h1 hc hl hT hok hp hn hs
  by_cases h3 : n = 3
  · subst h3
    have HQ := Lib.hid (show p = q by rw [← hq]; cases p <;> rfl)
    clear hq hs0
    go_enter Tryz.func19, Tryz.ntmps19
    go_wp2_with (go_at_call 35; go_must (refine (HP.out _ HT.out).mono ?_); rintro e w1 ⟨rfl, hb1⟩)
    go_ret
    exact ⟨by rw [HQ.out]; rfl, HB.out.trans (hb1.mono HB.out.size)⟩
  by_cases h4 : n = 4
  · subst h4
    have HQ := Lib.hid (show p = q by rw [← hq]; cases p <;> rfl)
    clear hq hs0
    go_enter Tryz.func19, Tryz.ntmps19
    go_wp2_with (go_at_call 35; go_must (refine (HP.out _ HT.out).mono ?_); rintro e w1 ⟨rfl, hb1⟩)
    go_ret
    exact ⟨by rw [HQ.out]; rfl, HB.out.trans (hb1.mono HB.out.size)⟩
  by_cases h5 : n = 5
  · subst h5
    have hs1 : (s.toList == []) = q := by rw [hs0, ← hq]; simp
    have HQ := Lib.hid hs1
    clear hq hs0
    go_enter Tryz.func19, Tryz.ntmps19
    go_wp2
    go_ret
    exact ⟨by first | rfl | (rw [← HQ.out]; rfl), HB.out⟩
  · have HQ := Lib.hid (show false = q by
      rw [← hq]
      have a3 : (n == 3) = false := beq_false_of_ne h3
      have a4 : (n == 4) = false := beq_false_of_ne h4
      have a5 : (n == 5) = false := beq_false_of_ne h5
      rw [a3, a4, a5]; rfl)
    have d3 : ((n : Int) == 3) = false := beq_false_of_ne (by omega)
    have d4 : ((n : Int) == 4) = false := beq_false_of_ne (by omega)
    have d5 : ((n : Int) == 5) = false := beq_false_of_ne (by omega)
    clear hq hs0 h3 h4 h5
    go_enter Tryz.func19, Tryz.ntmps19
    go_wp2
    go_ret
    exact ⟨by rw [HQ.out]; rfl, HB.out⟩
#print axioms right1_any
end Go.Proofs.YtipoielcmaegaaaGreatDoor

namespace Go.Proofs.YtipoielcmaegaaaGreatDoor
open Go.RowKit Go.Maps

/-- Any element of a set reads as nothing. -/
def noneR (_ : Value) : Option (DataW Unit × List MemPlace) := some (.nil, [])
theorem gd_take {α : Type} [Inhabited α] {L : List α} {j : Nat} (h : j < L.length) : L.take (j + 1) = L.take j ++ [gd L j] := by
  rw [List.take_succ_eq_append_getElem h]
  unfold gd
  simp [h]
theorem all_ok {L : List ClaimV} (h : ∀ j, j < L.length → claimOk (gd L j) = true) : ∀ c ∈ L, claimOk c = true := fun c hc => by
  obtain ⟨j, hj, rfl⟩ := List.mem_iff_getElem.1 hc
  have := h j hj
  have e : gd L j = L[j] := by unfold gd; simp [hj]
  rwa [e] at this

set_option maxRecDepth 100000 in
set_option maxHeartbeats 2000000 in
theorem right_any (a : Option Addr) (n c : Nat) (L : List ClaimV) (w : World) (h : AtG clK w a n c L) (hn : n ≤ 1000) (hl : ∀ c ∈ L, c.path.length ≤ 100000) (hT : PTabs w) (q : Bool) (hq : q = true ↔ RightR L) :
    Calls Tryz.prog 9 #[.slice a n c] w fun e w' => e = .returned (.bool q) ∧ Below w.heap.size w w' := by
  have HL := Lib.hid h.1
  have HN := Lib.hid h
  have hnI : (n : Int) ≤ 1000 := by omega
  have HM := Lib.hid hn
  have HQ := Lib.hid hq
  have HLL := Lib.hid hl
  have HT := Lib.hid hT
  have HF := Lib.hid (show ¬ RightR L → q = false from fun h => by
    cases q
    · rfl
    · exact absurd (HQ.out.1 rfl) h)
  have HK0 := Lib.hid (World.ownsMap_made (P := Tryz.prog) (k := 35) (R := noneR) w)
  have HB0 := Lib.hid ((Below.refl w.heap.size w).alloc (Nat.le_refl _) (.map #[] 0))
  have hmm := @run_makeMap Tryz.prog
  clear h hn hq hl hT
  go_enter Tryz.func9, Tryz.ntmps9
  go_wp2
  clear hmm
  generalize w.alloc (.map #[] 0) = W0 at HK0 HB0 ⊢
  go_loopg [9] n (fun g v9 W => ∃ i : Nat, Below w.heap.size w W ∧ v9 = .int .i64 i ∧ g + i = n ∧ Hid (∀ j, j < i → claimOk (gd L j) = true) ∧ Hid (∃ D, W.ownsMap Tryz.prog 35 noneR w.heap.size i D ∧ SetD (L.take i) D))
  case atStart => exact ⟨0, HB0.out, rfl, rfl, Lib.hid (fun i h => by omega), Lib.hid ⟨_, HK0.out, by rw [List.take_zero]; exact setD_nil⟩⟩
  case round =>
    obtain ⟨i, hbw, rfl, hg, HR, HK⟩ := hrel
    have HG := Lib.hid hg
    have HB := Lib.hid hbw
    have hi0 : (0 : Int) ≤ (i : Int) := by omega
    have hiI : (i : Int) ≤ (n : Int) := by omega
    by_cases hi : (i : Int) < (n : Int)
    · have hin : i < n := by omega
      have HI := Lib.hid hin
      obtain ⟨b, o, rfl⟩ := HN.out.some_ (by omega)
      have HC := Lib.hid ((HN.out.below hbw).at_ i hin)
      obtain ⟨X, hX⟩ : ∃ X, X = gd L i := ⟨_, rfl⟩
      have HX := Lib.hid (hX ▸ HN.out.ok hin : ClOk X)
      have HXL : Hid (X.path.length ≤ 100000) := Lib.hid (by rw [hX]; exact HLL.out _ (gd_mem (by rw [HL.out]; exact hin)))
      rw [← hX] at HC
      have HXE := Lib.hid hX
      have HXC : Hid (X.key.c.length = 32 ∧ X.doc.c.length = 32) := Lib.hid ⟨HX.out.1, HX.out.2.1⟩
      clear hg hX
      cases hv : claimOk X
      · have HE := Lib.hid (HF.out (fun h => by
          have := h.1 X (by rw [HXE.out]; exact gd_mem (by rw [HL.out]; exact HI.out))
          rw [hv] at this; cases this))
        have HR1 := Lib.hid (fun W hT => right1_any X false hv W HXC.out HXL.out hT)
        clear hv
        go_wp2_with (first
          | ((with_reducible show wpList _ _ _ (⟨some 12, _, _, _, _, _⟩ :: _) _ _); go_must (refine wl_ex rfl (exec_loadClaim _ rfl _ _ X HXC.out rfl HC.out) ?_))
          | (refine store_claim rfl rfl _ _ rfl X HXC.out rfl rfl ?_; intro W2 hnd hb2 hs2; have HB2 := Lib.hid (HB.out.trans (hb2.mono HB.out.size)); have HND := Lib.hid hnd; clear hnd hb2)
          | ((with_reducible show wpList _ _ _ (⟨some 13, _, _, _, _, _⟩ :: _) _ _); go_must (refine wl_ex rfl (exec_loadClaim _ rfl _ _ X HXC.out rfl HND.out.all) ?_))
          | (go_at_call 19; go_must (refine (HR1.out _ (HT.out.below HB2.out)).mono ?_); rintro e w1 ⟨rfl, hb3⟩))
        go_ret
        exact ⟨by rw [HE.out]; rfl, HB2.out.trans (hb3.mono HB2.out.size)⟩
      · have HR1 := Lib.hid (fun W hT => right1_any X true hv W HXC.out HXL.out hT)
        have HV := Lib.hid hv
        obtain ⟨kl, hkl⟩ := HX.out.2.2.1
        have HKL := Lib.hid hkl
        have HMX := Lib.hid (show i < maxLen by have := HI.out; have := HM.out; unfold maxLen; omega)
        obtain ⟨D, ho, hsd⟩ := HK.out
        have HO := Lib.hid ho
        have HSD := Lib.hid hsd
        clear hv hkl ho hsd HK
        go_wp2_with (first
          | ((with_reducible show wpList _ _ _ (⟨some 12, _, _, _, _, _⟩ :: _) _ _); go_must (refine wl_ex rfl (exec_loadClaim _ rfl _ _ X HXC.out rfl HC.out) ?_))
          | (refine store_claim rfl rfl _ _ rfl X HXC.out rfl rfl ?_; intro W2 hnd hb2 hs2; have HB2 := Lib.hid (HB.out.trans (hb2.mono HB.out.size)); have HO2 := Lib.hid (map_below HO.out hb2); have HND := Lib.hid hnd; clear hnd hb2 hs2)
          | ((with_reducible show wpList _ _ _ (⟨some 13, _, _, _, _, _⟩ :: _) _ _); go_must (refine wl_ex rfl (exec_loadClaim _ rfl _ _ X HXC.out rfl HND.out.all) ?_))
          | (go_at_call 19; go_must (refine (HR1.out _ (HT.out.below HB2.out)).mono ?_); rintro e w1 ⟨rfl, hb3⟩; have HB3 := Lib.hid (HB2.out.trans (hb3.mono HB2.out.size)); have HO3 := Lib.hid (map_below HO2.out hb3); have HN3 := Lib.hid ((HND.out.below hb3).key); clear hb3)
          | ((with_reducible show wpList _ _ _ (⟨some 18, _, _, _, _, _⟩ :: _) _ _); go_must (refine wl_loadKey rfl _ rfl _ _ X.key HXC.out.1 rfl HN3.out ?_))
          | (at_mapUpdate; go_must (refine wpList_mapUpdate_own _ rfl (.tmp 16) (.tmp 18) (.tmp 19) 54 rfl 35 55 lawK Tryz.underlying54 noneR w.heap.size i _ rfl HO3.out HMX.out (.agg (keyC X.key)) _ kl rfl rfl HKL.out .nil [] rfl ?_); intro W4 ho4 hg4))
        go_roundg (n - (i + 1))
        case measure => have := HG.out; have := HI.out; omega
        case rel =>
          exact ⟨i + 1, HB3.out.grown hg4 HB3.out.size (fun k hk => by cases hk; exact Nat.le_refl _), by go_num, by have := HI.out; omega, Lib.hid (fun j hj => by
            rcases Nat.lt_or_ge j i with h1 | h1
            · exact HR.out j h1
            · obtain rfl : j = i := by omega
              rw [← HXE.out]; exact HV.out), Lib.hid ⟨_, ho4, by rw [gd_take (by rw [HL.out]; exact HI.out), ← HXE.out]; exact HSD.out.next (HO.out.tidy lawK) HKL.out _⟩⟩
    · have hin : i = n := by omega
      subst hin
      obtain ⟨D, ho, hsd⟩ := HK.out
      have HO := Lib.hid ho
      rw [List.take_of_length_le (by rw [HL.out]; omega)] at hsd
      have hsz := hsd.2.1
      have hpw := hsd.2.2
      rw [HL.out] at hsz hpw
      obtain ⟨y, hy⟩ : ∃ y, Maps.size D = y := ⟨_, rfl⟩
      have HS := Lib.hid hy
      rw [hy] at hsz hpw
      have hR2 : q = true ↔ y = i := by
        rw [HQ.out]
        constructor
        · intro h; exact hpw.2 h.2
        · intro h; exact ⟨all_ok (by rw [HL.out]; exact HR.out), hpw.1 h⟩
      by_cases hyi : y = i
      · subst hyi
        have HE : Hid (q = true) := Lib.hid (hR2.2 rfl)
        clear hg ho hsd hy hsz hpw hR2
        go_wp2_with (at_len; refine wpList_len_own _ rfl _ _ rfl 35 55 Tryz.underlying54 noneR w.heap.size _ _ rfl HO.out ?_; rw [HS.out])
        go_ret
        exact ⟨by rw [HE.out]; simp, HB.out⟩
      · have HE : Hid (q = false) := Lib.hid (by
          cases q
          · rfl
          · exact absurd (hR2.1 rfl) hyi)
        have dy : ((y : Int) == (i : Int)) = false := by simp; omega
        clear hg ho hsd hy hsz hpw hR2 hyi
        go_wp2_with (at_len; refine wpList_len_own _ rfl _ _ rfl 35 55 Tryz.underlying54 noneR w.heap.size _ _ rfl HO.out ?_; rw [HS.out])
        go_ret
        exact ⟨by rw [HE.out]; rfl, HB.out⟩
#print axioms right_any
end Go.Proofs.YtipoielcmaegaaaGreatDoor

namespace Go.Proofs.YtipoielcmaegaaaGreatDoor
open Go.RowKit Go.Maps

theorem zeroCl (w : World) : (zeroValue CEr).run Tryz.prog w = .ok (.agg (claimC default)) w := by kernel_rfl
theorem right_is (a : Option Addr) (n c : Nat) (L : List ClaimV) (w : World) (h : AtG clK w a n c L) (hn : n ≤ 1000) (hl : ∀ c ∈ L, c.path.length ≤ 100000) (hT : PTabs w) (q : Bool) (hq : q = true ↔ RightR L) :
    Calls Tryz.prog 9 #[.slice a n c] w fun e w' => e = .returned (.bool q) ∧ Below w.heap.size w w' := right_any a n c L w h hn hl hT q hq
abbrev MapC (w : World) (g k : Nat) (D : DataW Unit) : Prop := w.ownsMap Tryz.prog 35 clElem g k D
/-- other, ok := last[doc], at the operation. -/
theorem wl_look {w : World} {ops : Array Oper} {rest : List Oper} {o : Oper} {a : Act} {Q : Exit → Act → World → Prop} (hgd : o.guard = none) (mo x : Operand) (hop : o.op = Op.lookup 59 mo x true)
    (g k : Nat) (D : DataW Unit) (hown : MapC w g k D) (hm : a.eval mo = .map (some g)) (d : KeyV) (hx : a.eval x = .agg (keyC d)) (kl : Lit) (hk : KlK d kl)
    (c : ClaimV) (b : Bool) (hb : Maps.has D kl = b) (hat : D.atKey kl (clD default) = clD c)
    (hK : wpList Tryz.prog ops Q rest (a.put o.dst (.tuple #[.agg (claimC c), .bool b])) w) : wpList Tryz.prog ops Q (o :: rest) a w := by
  obtain ⟨v, ps, hrun, hv⟩ := hown.look_ok (t := 59) (e := CEr) lawK Tryz.underlying59 (zeroCl w) (zd := clD default) (zp := []) (clElem_mk ⟨rfl, rfl⟩) hk
  obtain ⟨c', hc', rfl, he⟩ := clElem_inv hv
  simp only [Prod.mk.injEq] at he
  rw [hat] at he
  obtain rfl := clD_inj he.1
  rw [hb] at hrun
  refine wpList_plain hgd fun K' hK' => ?_
  unfold Oper.wp
  simp [execOp, hop, hm, hx, hrun, Result.andThen]
  exact hK' _ _ hK
/-- The claims that count: all, where these may be; else none. -/
def Counts (L T : List ClaimV) : Prop := (RightR L ∧ T = L) ∨ (¬ RightR L ∧ T = [])
def LastsIs (T : List ClaimV) (n : Nat) (w : World) (e : Ending) (w' : World) : Prop := ∃ g k D, e = .returned (.map (some g)) ∧ w.heap.size ≤ g ∧ k ≤ n ∧ MapC w' g k D ∧ LastD T D ∧ Below w.heap.size w w'

theorem doc_cases (T : List ClaimV) (x : ClaimV) : (∀ c ∈ T, c.doc ≠ x.doc) ∨ ∃ c ∈ T, c.doc = x.doc := by
  rcases Classical.em (∃ c ∈ T, c.doc = x.doc) with h | h
  · exact .inr h
  · exact .inl fun c hc e => h ⟨c, hc, e⟩
theorem RightR.take {L : List ClaimV} (h : RightR L) (i : Nat) : RightR (L.take i) := ⟨fun c hc => h.1 c (List.mem_of_mem_take hc), h.2.sublist (List.take_sublist _ _)⟩

set_option maxRecDepth 100000 in
set_option maxHeartbeats 2000000 in
theorem lasts_any (a : Option Addr) (n c : Nat) (L T : List ClaimV) (w : World) (h : AtG clK w a n c L) (hn : n ≤ 1000) (hl : ∀ c ∈ L, c.path.length ≤ 100000) (hT : PTabs w) (hC : Counts L T) :
    Calls Tryz.prog 22 #[.slice a n c] w (LastsIs T n w) := by
  have HL := Lib.hid h.1
  have HN := Lib.hid h
  have hnI : (n : Int) ≤ 1000 := by omega
  have HM := Lib.hid hn
  have HK0 := Lib.hid (World.ownsMap_made (P := Tryz.prog) (k := 35) (R := clElem) w)
  have HB0 := Lib.hid ((Below.refl w.heap.size w).alloc (Nat.le_refl _) (.map #[] 0))
  have hmm := @run_makeMap Tryz.prog
  rcases hC with ⟨hR, rfl⟩ | ⟨hR, rfl⟩
  · have HRT := Lib.hid hR
    have HR := Lib.hid (fun W (hW : Below w.heap.size w W) => right_is a n c T W (h.below hW) hn hl (hT.below hW) true (by simp [hR]))
    clear h hn hl hT hR
    go_enter Tryz.func22, Tryz.ntmps22
    go_wp2_with (go_at_call 9; go_must (refine (HR.out _ HB0.out).mono ?_); rintro e w1 ⟨rfl, hb1⟩; have HK1 := Lib.hid (map_below HK0.out hb1); have HB1 := Lib.hid (HB0.out.trans (hb1.mono HB0.out.size)); clear hb1)
    clear hmm
    go_loopg [15] n (fun g v15 W => ∃ i : Nat, Below w.heap.size w W ∧ v15 = .int .i64 i ∧ g + i = n ∧ Hid (∃ k D, k ≤ i ∧ MapC W w.heap.size k D ∧ LastD (T.take i) D))
    case atStart => exact ⟨0, HB1.out, rfl, rfl, Lib.hid ⟨0, _, Nat.le_refl _, HK1.out, by rw [List.take_zero]; exact lastD_nil⟩⟩
    case round =>
      obtain ⟨i, hbw, rfl, hg, HK⟩ := hrel
      have HG := Lib.hid hg
      have HB := Lib.hid hbw
      have hi0 : (0 : Int) ≤ (i : Int) := by omega
      have hiI : (i : Int) ≤ (n : Int) := by omega
      by_cases hi : (i : Int) < (n : Int)
      · have hin : i < n := by omega
        have HI := Lib.hid hin
        obtain ⟨b, o, rfl⟩ := HN.out.some_ (by omega)
        have HC := Lib.hid ((HN.out.below hbw).at_ i hin)
        obtain ⟨X, hX⟩ : ∃ X, X = gd T i := ⟨_, rfl⟩
        have HX := Lib.hid (hX ▸ HN.out.ok hin : ClOk X)
        have HTK : Hid (T.take (i + 1) = T.take i ++ [X]) := Lib.hid (by rw [hX]; exact gd_take (by rw [HL.out]; exact hin))
        rw [← hX] at HC
        have HXC : Hid (X.key.c.length = 32 ∧ X.doc.c.length = 32) := Lib.hid ⟨HX.out.1, HX.out.2.1⟩
        obtain ⟨kl, hkl⟩ := HX.out.2.2.2.1
        have HKL := Lib.hid hkl
        obtain ⟨k, D, hki, ho, hld⟩ := HK.out
        have HKI := Lib.hid hki
        have HMX := Lib.hid (show k < maxLen by have := HI.out; have := HM.out; unfold maxLen; omega)
        have HO := Lib.hid ho
        have HLD := Lib.hid hld
        rcases doc_cases (T.take i) X with hno | ⟨y, hy, hye⟩
        · have HH := Lib.hid (hld.none hkl hno)
          obtain ⟨Z, hZ⟩ : ∃ Z : ClaimV, Z = default := ⟨_, rfl⟩
          have HA := Lib.hid (show D.atKey kl (clD default) = clD Z by rw [hZ]; exact Maps.atKey_of_not_has HH.out (clD default))
          have HZC : Hid (Z.key.c.length = 32 ∧ Z.doc.c.length = 32) := Lib.hid (by rw [hZ]; exact ⟨rfl, rfl⟩)
          have HNO := Lib.hid hno
          clear hg hX hkl hki ho hld hno HK hZ
          go_wp2_with (first
            | ((with_reducible show wpList _ _ _ (⟨some 18, _, _, _, _, _⟩ :: _) _ _); go_must (refine wl_ex rfl (exec_loadClaim _ rfl _ _ X HXC.out rfl HC.out) ?_))
            | ((with_reducible show wpList _ _ _ (⟨some 22, _, _, _, _, _⟩ :: _) _ _); go_must (refine wl_loadKey rfl _ rfl _ _ X.doc HXC.out.2 rfl HND.out.doc ?_))
            | ((with_reducible show wpList _ _ _ (⟨some 23, _, _, _, _, _⟩ :: _) _ _); go_must (refine wl_look rfl _ _ rfl w.heap.size k D HO2.out rfl X.doc rfl kl HKL.out Z false HH.out HA.out ?_))
            | ((with_reducible show wpList _ _ _ (⟨some 38, _, _, _, _, _⟩ :: _) _ _); go_must (refine wl_loadKey rfl _ rfl _ _ X.doc HXC.out.2 rfl HN3.out.doc ?_))
            | ((with_reducible show wpList _ _ _ (⟨some 39, _, _, _, _, _⟩ :: _) _ _); go_must (refine wl_ex rfl (exec_loadClaim _ rfl _ _ X HXC.out rfl HN3.out.all) ?_))
            | ((with_reducible show wpList _ _ _ (⟨_, Op.store _ (.tmp 5) _, _, _, _, _⟩ :: _) _ _); go_must (refine store_claim rfl rfl _ _ rfl X HXC.out rfl rfl ?_); intro W2 hnd hb2 hs2; have HB2 := Lib.hid (HB.out.trans (hb2.mono HB.out.size)); have HO2 := Lib.hid (map_below HO.out hb2); have HND := Lib.hid hnd; clear hnd hb2 hs2)
            | ((with_reducible show wpList _ _ _ (⟨_, Op.store _ (.tmp 6) _, _, _, _, _⟩ :: _) _ _); go_must (refine store_claim rfl rfl _ _ rfl Z HZC.out rfl rfl ?_); intro W3 hnd3 hb3 hs3; have HB3 := Lib.hid (HB2.out.trans (hb3.mono HB2.out.size)); have HO3 := Lib.hid (map_below HO2.out hb3); have HN3 := Lib.hid (HND.out.below hb3); clear hnd3 hb3 hs3)
            | (at_mapUpdate; go_must (refine wpList_mapUpdate_own _ rfl (.tmp 36) (.tmp 38) (.tmp 39) 59 rfl 35 CEr lawK Tryz.underlying59 clElem w.heap.size k _ rfl HO3.out HMX.out (.agg (keyC X.doc)) _ kl rfl rfl HKL.out (clD X) [] (clElem_mk HXC.out) ?_); intro W4 ho4 hg4))
          go_roundg (n - (i + 1))
          case measure => have := HG.out; have := HI.out; omega
          case rel =>
            exact ⟨i + 1, HB3.out.grown hg4 HB3.out.size (fun k hk => by cases hk; exact Nat.le_refl _), by go_num, by have := HI.out; omega, Lib.hid ⟨k + 1, _, by have := HKI.out; omega, ho4, by rw [HTK.out]; exact HLD.out.put HO.out.isMap HKL.out (fun c hc e => absurd e (HNO.out c hc))⟩⟩
        · obtain ⟨hh, d, hd1, hd2, hd3⟩ := hld.some_ hy (by rw [hye]; exact hkl)
          have HH := Lib.hid hh
          have HA := Lib.hid (hd3 (clD default))
          have HD1 := Lib.hid hd1
          have HD2 := Lib.hid (hd2.trans hye)
          have HDC : Hid (d.key.c.length = 32 ∧ d.doc.c.length = 32) := Lib.hid (by
            have := HN.out.2.2.2.1 d (List.mem_of_mem_take hd1.1)
            exact ⟨this.1, this.2.1⟩)
          obtain ⟨z, hz⟩ : ∃ z, keyF d.key X.key = z := ⟨_, rfl⟩
          have HZ := Lib.hid hz
          have KA := Lib.hid (fun W => keys_is d.key X.key z hz W HDC.out.1 HXC.out.1)
          clear hg hX hkl hki ho hld hy hye hh hd1 hd2 hd3 hz HK
          by_cases hz0 : z < 0
          · have HZ0 := Lib.hid hz0
            go_wp2_with (first
              | ((with_reducible show wpList _ _ _ (⟨some 18, _, _, _, _, _⟩ :: _) _ _); go_must (refine wl_ex rfl (exec_loadClaim _ rfl _ _ X HXC.out rfl HC.out) ?_))
              | ((with_reducible show wpList _ _ _ (⟨some 22, _, _, _, _, _⟩ :: _) _ _); go_must (refine wl_loadKey rfl _ rfl _ _ X.doc HXC.out.2 rfl HND.out.doc ?_))
              | ((with_reducible show wpList _ _ _ (⟨some 23, _, _, _, _, _⟩ :: _) _ _); go_must (refine wl_look rfl _ _ rfl w.heap.size k D HO2.out rfl X.doc rfl kl HKL.out d true HH.out HA.out ?_))
              | ((with_reducible show wpList _ _ _ (⟨some 30, _, _, _, _, _⟩ :: _) _ _); go_must (refine wl_ex rfl (exec_loadKey _ rfl _ _ d.key HDC.out.1 rfl HND3.out.key) ?_))
              | ((with_reducible show wpList _ _ _ (⟨some 32, _, _, _, _, _⟩ :: _) _ _); go_must (refine wl_ex rfl (exec_loadKey _ rfl _ _ X.key HXC.out.1 rfl HN3.out.key) ?_))
              | ((with_reducible show wpList _ _ _ (⟨some 38, _, _, _, _, _⟩ :: _) _ _); go_must (refine wl_loadKey rfl _ rfl _ _ X.doc HXC.out.2 rfl HN5.out.doc ?_))
              | ((with_reducible show wpList _ _ _ (⟨some 39, _, _, _, _, _⟩ :: _) _ _); go_must (refine wl_ex rfl (exec_loadClaim _ rfl _ _ X HXC.out rfl HN5.out.all) ?_))
              | ((with_reducible show wpList _ _ _ (⟨_, Op.store _ (.tmp 5) _, _, _, _, _⟩ :: _) _ _); go_must (refine store_claim rfl rfl _ _ rfl X HXC.out rfl rfl ?_); intro W2 hnd hb2 hs2; have HB2 := Lib.hid (HB.out.trans (hb2.mono HB.out.size)); have HO2 := Lib.hid (map_below HO.out hb2); have HND := Lib.hid hnd; clear hnd hb2 hs2)
              | ((with_reducible show wpList _ _ _ (⟨_, Op.store _ (.tmp 6) _, _, _, _, _⟩ :: _) _ _); go_must (refine store_claim rfl rfl _ _ rfl d HDC.out rfl rfl ?_); intro W3 hnd3 hb3 hs3; have HB3 := Lib.hid (HB2.out.trans (hb3.mono HB2.out.size)); have HO3 := Lib.hid (map_below HO2.out hb3); have HN3 := Lib.hid (HND.out.below hb3); have HND3 := Lib.hid hnd3; clear hnd3 hb3 hs3)
              | (go_at_call 26; go_must (refine (KA.out _).mono ?_); rintro e w5 ⟨rfl, hb5⟩; have HB5 := Lib.hid (HB3.out.trans (hb5.mono HB3.out.size)); have HO5 := Lib.hid (map_below HO3.out hb5); have HN5 := Lib.hid (HN3.out.below hb5); clear hb5)
              | (at_mapUpdate; go_must (refine wpList_mapUpdate_own _ rfl (.tmp 36) (.tmp 38) (.tmp 39) 59 rfl 35 CEr lawK Tryz.underlying59 clElem w.heap.size k _ rfl HO5.out HMX.out (.agg (keyC X.doc)) _ kl rfl rfl HKL.out (clD X) [] (clElem_mk HXC.out) ?_); intro W4 ho4 hg4))
            go_roundg (n - (i + 1))
            case measure => have := HG.out; have := HI.out; omega
            case rel =>
              exact ⟨i + 1, HB5.out.grown hg4 HB5.out.size (fun k hk => by cases hk; exact Nat.le_refl _), by go_num, by have := HI.out; omega, Lib.hid ⟨k + 1, _, by have := HKI.out; omega, ho4, by
                rw [HTK.out]
                refine HLD.out.put HO.out.isMap HKL.out (fun c hc e => ?_)
                have h1 := HD1.out.2 c hc (by rw [e, HD2.out])
                have h2 := HZ.out
                have h3 := HZ0.out
                exact Int.le_of_lt (keyF_le_lt h1 (by omega))⟩⟩
          · have dz : decide (z < 0) = false := decide_eq_false hz0
            have HZ0 := Lib.hid hz0
            clear hz0
            go_wp2_with (first
              | ((with_reducible show wpList _ _ _ (⟨some 18, _, _, _, _, _⟩ :: _) _ _); go_must (refine wl_ex rfl (exec_loadClaim _ rfl _ _ X HXC.out rfl HC.out) ?_))
              | ((with_reducible show wpList _ _ _ (⟨some 22, _, _, _, _, _⟩ :: _) _ _); go_must (refine wl_loadKey rfl _ rfl _ _ X.doc HXC.out.2 rfl HND.out.doc ?_))
              | ((with_reducible show wpList _ _ _ (⟨some 23, _, _, _, _, _⟩ :: _) _ _); go_must (refine wl_look rfl _ _ rfl w.heap.size k D HO2.out rfl X.doc rfl kl HKL.out d true HH.out HA.out ?_))
              | ((with_reducible show wpList _ _ _ (⟨some 30, _, _, _, _, _⟩ :: _) _ _); go_must (refine wl_ex rfl (exec_loadKey _ rfl _ _ d.key HDC.out.1 rfl HND3.out.key) ?_))
              | ((with_reducible show wpList _ _ _ (⟨some 32, _, _, _, _, _⟩ :: _) _ _); go_must (refine wl_ex rfl (exec_loadKey _ rfl _ _ X.key HXC.out.1 rfl HN3.out.key) ?_))
              | ((with_reducible show wpList _ _ _ (⟨_, Op.store _ (.tmp 5) _, _, _, _, _⟩ :: _) _ _); go_must (refine store_claim rfl rfl _ _ rfl X HXC.out rfl rfl ?_); intro W2 hnd hb2 hs2; have HB2 := Lib.hid (HB.out.trans (hb2.mono HB.out.size)); have HO2 := Lib.hid (map_below HO.out hb2); have HND := Lib.hid hnd; clear hnd hb2 hs2)
              | ((with_reducible show wpList _ _ _ (⟨_, Op.store _ (.tmp 6) _, _, _, _, _⟩ :: _) _ _); go_must (refine store_claim rfl rfl _ _ rfl d HDC.out rfl rfl ?_); intro W3 hnd3 hb3 hs3; have HB3 := Lib.hid (HB2.out.trans (hb3.mono HB2.out.size)); have HO3 := Lib.hid (map_below HO2.out hb3); have HN3 := Lib.hid (HND.out.below hb3); have HND3 := Lib.hid hnd3; clear hnd3 hb3 hs3)
              | (go_at_call 26; go_must (refine (KA.out _).mono ?_); rintro e w5 ⟨rfl, hb5⟩; have HB5 := Lib.hid (HB3.out.trans (hb5.mono HB3.out.size)); have HO5 := Lib.hid (map_below HO3.out hb5); clear hb5))
            go_roundg (n - (i + 1))
            case measure => have := HG.out; have := HI.out; omega
            case rel =>
              exact ⟨i + 1, HB5.out, by go_num, by have := HI.out; omega, Lib.hid ⟨k, D, by have := HKI.out; omega, HO5.out, by
                rw [HTK.out]
                refine HLD.out.stays HD1.out HD2.out ?_ (fun a b ha hb e => ha.uniq (HRT.out.take i) hb e)
                have h2 := HZ.out
                have h3 := HZ0.out
                have h4 := keyF_anti d.key X.key
                omega⟩⟩
      · have hin : i = n := by omega
        subst hin
        obtain ⟨k, D, hki, ho, hld⟩ := HK.out
        rw [List.take_of_length_le (by rw [HL.out]; omega)] at hld
        have HO := Lib.hid ho
        have HLD := Lib.hid hld
        have HKI := Lib.hid hki
        clear hg ho hld hki HK
        go_wp2
        go_ret
        exact ⟨_, k, D, rfl, Nat.le_refl _, HKI.out, HO.out, HLD.out, HB.out⟩
  · have HR := Lib.hid (fun W (hW : Below w.heap.size w W) => right_is a n c L W (h.below hW) hn hl (hT.below hW) false (by simp [hR]))
    clear h hn hl hT hR
    go_enter Tryz.func22, Tryz.ntmps22
    go_wp2_with (go_at_call 9; go_must (refine (HR.out _ HB0.out).mono ?_); rintro e w1 ⟨rfl, hb1⟩; have HK1 := Lib.hid (map_below HK0.out hb1); have HB1 := Lib.hid (HB0.out.trans (hb1.mono HB0.out.size)); clear hb1)
    go_ret
    exact ⟨_, 0, _, rfl, Nat.le_refl _, Nat.zero_le _, HK1.out, lastD_nil, HB1.out⟩
#print axioms lasts_any
end Go.Proofs.YtipoielcmaegaaaGreatDoor
