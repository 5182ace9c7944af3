/-
  The law of an element that comes next, walked.
-/
import Derived.Test.YtmenhbdapikpeaaTreeLaws1
namespace Go.Proofs.Ytmenhbdapikpeaa
open Go.RowKit

theorem exec_loadNodeR {w : World} {o : Oper} {a : Act} (x : Operand) (ho : o.op = .load 43 x) (b off : Nat) (X : NodeV) (hX : NdOk X) (hx : a.eval x = .pointer (some ⟨b, off, none⟩)) (hc : w.rangeAt b off (nodeL X)) :
    (execOp a.eval o).run Try.prog w = .ok (.value (.agg (nodeC X))) w := by
  have i37 : (Try.prog.info? 43).map (·.size) = some 37 := by kernel_rfl
  have hr := run_loadVar_mid (P := Try.prog) w b off 43 (nodeL X) _ hc Try.underlying43 rfl (by rw [nodeL_length hX]; exact i37)
  unfold execOp
  simp only [ho, hx, Instr.loadAt, Instr.sureAddr, Sem.run_bind, Sem.run_pure, Result.andThen_ok, hr]
  rfl
set_option maxRecDepth 100000 in
set_option maxHeartbeats 1000000 in
theorem treeCopy_any (a : Option Addr) (n c : Nat) (L : List NodeV) (w : World) (h : NodesAt w a n c L) (hn : n ≤ 1000) :
    Calls Try.prog 19 #[.slice a n c] w fun e w' => ∃ a1 c1, e = .returned (.slice a1 n c1) ∧ OwnT 43 w' w.heap.size (.slice a1 n c1) L ∧ Below w.heap.size w w' := by
  have hbel : Below w.heap.size w (w.alloc (.cells #[] 43)) := (Below.refl _ _).alloc (Nat.le_refl _) _
  have HO : Hid (OwnT 43 (w.alloc (.cells #[] 43)) w.heap.size (.slice (some ⟨w.heap.size, 0, none⟩) 0 0) []) := Lib.hid ⟨World.ownsRow_lit w #[] 0 (Nat.le_refl _) (Nat.zero_le _) rfl, fun _ h => by cases h⟩
  have HB := Lib.hid hbel
  have HN := Lib.hid (h.below hbel)
  have HM := Lib.hid hn
  clear h hn hbel
  go_enter Try.func19, Try.ntmps19
  go_wp2_with (at_builtin; go_must (refine app_nodes Try.underlying22 infoR (by decide) rfl _ _ rfl w.heap.size _ [] rfl HO.out _ n c L rfl HN.out (by have := HM.out; simp; omega) HB.out.size n (by simp) ?_); intro a2 c2 W5 ho2 hg2)
  go_ret
  exact ⟨a2, c2, rfl, by simpa using ho2, HB.out.grown hg2 HB.out.size (fun k hk => by cases hk; exact Nat.le_refl _)⟩

/-- What stands ahead of the last key's element stands no further than its parent. -/
theorem next_last {M : List NodeV} (hT : TreeP M) {m j : Nat} (hm : m < M.length) (hj : j < M.length) (hmax : ∀ i, i < M.length → keyF (nd M i).k (nd M m).k ≤ 0) (h : cmpT M j m < 0) : wayF (wayK M j) (kys M (wayQ M (nd M m).p)) ≤ 0 := by
  refine Int.not_lt.1 (fun hlt => ?_)
  have hw : wayK M m = kys M (wayQ M (nd M m).p) ++ [(nd M m).k] := by
    unfold wayK
    rw [wayI_step hT hm, kys_app]
    rfl
  have h1 : wayF (kys M (wayQ M (nd M m).p)) (wayK M j) < 0 := by
    have := wayF_anti (wayK M j) (kys M (wayQ M (nd M m).p))
    omega
  by_cases hp : ∀ r, wayK M j ≠ kys M (wayQ M (nd M m).p) ++ r
  · have h2 := wayF_apart h1 hp [(nd M m).k]
    rw [← hw] at h2
    have h3 := cmpT_anti M j m
    unfold cmpT at h h3
    omega
  · obtain ⟨r, hr⟩ : ∃ r, wayK M j = kys M (wayQ M (nd M m).p) ++ r := Classical.byContradiction fun hc => hp (fun r e => hc ⟨r, e⟩)
    unfold cmpT at h
    rw [hw, hr, wayF_pre] at h
    cases r with
    | nil =>
      rw [List.append_nil] at hr
      rw [hr, wayF_self] at h1
      omega
    | cons k0 r' =>
      have hk0 : k0 ∈ wayK M j := by rw [hr]; simp
      obtain ⟨i, hi, rfl⟩ := List.mem_map.1 hk0
      have h4 := hmax i (wayI_mem hT j hj i hi)
      have h5 := keyF_anti (nd M i).k (nd M m).k
      unfold wayF at h
      split at h
      · cases r' <;> simp [wayF] at h
      · omega
/-- Where it stands. -/
theorem next_place {M : List NodeV} (hT : TreeP M) {m t : Nat} {l : List Nat} (hl : OrdT M l) (ht : t < l.length) (hm : l.getD t 0 = m) (hmax : ∀ i, i < M.length → keyF (nd M i).k (nd M m).k ≤ 0) :
    ((nd M m).p = -1 → t = 0) ∧ ∀ q : Nat, (nd M m).p = (q : Int) → 0 < t ∧ l.getD (t - 1) 0 = q := by
  have hml : m < M.length := (hl.2 m).1 (hm ▸ getD_mem ht)
  have hlt : ∀ i j, i < j → j < l.length → cmpT M (l.getD i 0) (l.getD j 0) < 0 := fun i j hij hj => by
    have h1 := List.pairwise_iff_getElem.1 hl.1 i j (by omega) hj hij
    have e1 : l.getD i 0 = l[i] := by simp [show i < l.length from by omega]
    have e2 : l.getD j 0 = l[j] := by simp [hj]
    rw [e1, e2]
    exact h1
  refine ⟨fun hp => ?_, fun q hp => ?_⟩
  · rcases Nat.eq_zero_or_pos t with h | h
    · exact h
    have h0 := hlt 0 t h ht
    have hj : l.getD 0 0 < M.length := (hl.2 _).1 (getD_mem (by omega))
    rw [hm] at h0
    have h1 := next_last hT hml hj hmax h0
    rw [hp] at h1
    have h2 := wayI_ne hT hj
    have h3 : wayQ M (-1) = [] := rfl
    rw [h3] at h1
    unfold wayK kys at h1
    cases hw : wayI M (l.getD 0 0) with
    | nil => exact absurd hw h2
    | cons x r => rw [hw] at h1; simp [wayF] at h1
  · have hq : q < M.length := by
      rcases hT.par m hml with h | ⟨j, h, hj, _⟩
      · rw [hp] at h; omega
      · have : j = q := by rw [hp] at h; omega
        rw [← this]; exact hj
    have hqm : cmpT M q m < 0 := cmpT_below (desc_child hT hml hp)
    obtain ⟨s, hs, e⟩ := List.getElem_of_mem ((hl.2 q).2 hq)
    have hsq : l.getD s 0 = q := by simp [hs, e]
    have hst : s < t := by
      rcases Nat.lt_trichotomy s t with h | h | h
      · exact h
      · exfalso
        have : q = m := by rw [← hsq, ← hm, h]
        rw [this] at hqm
        unfold cmpT at hqm
        rw [wayF_self] at hqm
        omega
      · exfalso
        have h1 := hlt t s h hs
        rw [hm, hsq] at h1
        have := cmpT_anti M q m
        omega
    refine ⟨by omega, ?_⟩
    by_cases hs1 : s = t - 1
    · rw [← hs1, hsq]
    exfalso
    have hj : l.getD (t - 1) 0 < M.length := (hl.2 _).1 (getD_mem (by omega))
    have h1 := hlt (t - 1) t (by omega) ht
    rw [hm] at h1
    have h2 := next_last hT hml hj hmax h1
    rw [hp, wayQ_nat] at h2
    have h3 := hlt s (t - 1) (by omega) (by omega)
    rw [hsq] at h3
    have h4 := cmpT_anti M q (l.getD (t - 1) 0)
    have h5 : cmpT M (l.getD (t - 1) 0) q ≤ 0 := h2
    omega

set_option maxRecDepth 100000 in
set_option maxHeartbeats 8000000 in
theorem treeNext_any (a : Option Addr) (n c : Nat) (L : List NodeV) (X : NodeV) (hX : NdOk X) (w w0 : World) (hw0 : w0 = w.alloc (.cells (nodeC X) 43)) (h : NodesAt w0 a n c L) :
    Calls Try.prog 6 #[.slice a n c, .agg (nodeC X)] w fun e w' => e = .returned (.bool true) ∧ Below w.heap.size w w' := by
  have HB0 := Lib.hid (show Below w.heap.size w w0 from hw0 ▸ (Below.refl w.heap.size w).alloc (Nat.le_refl _) _)
  have hall : ∀ W, Below w0.heap.size w0 W → W.rangeAt w.heap.size 0 (nodeL X) := fun W hb i v hv => by
    rw [Nat.zero_add, hb.cell (by rw [hw0]; simp), hw0, World.cell?_alloc_new]
    simpa [nodeC] using hv
  have KN := Lib.hid hall
  have KP : Hid (∀ W, Below w0.heap.size w0 W → W.cell? ⟨w.heap.size, 34, none⟩ = some (.int .i64 X.p)) := Lib.hid (fun W hb => by
    have := hall W hb 34 (.int .i64 X.p) (by have := keyL_length hX.1; simp [nodeL, this])
    rwa [Nat.zero_add] at this)
  have KK : Hid (∀ W, Below w0.heap.size w0 W → W.rangeAt w.heap.size 0 (keyL X.k)) := Lib.hid (fun W hb i v hv => by
    refine hall W hb i v ?_
    unfold nodeL
    rw [List.getElem?_append_left (List.getElem?_eq_some_iff.1 hv).1]
    exact hv)
  obtain ⟨p, hp⟩ : ∃ p, p = X.p := ⟨_, rfl⟩
  rw [← hp] at KP
  have HP := Lib.hid hp
  have HX := Lib.hid hX
  have kp := KP.out w0 (Below.refl _ _)
  have hAl := hw0.symm
  have AW := Lib.hid (fun W => awake_any W)
  have HB := Lib.hid (Below.refl w0.heap.size w0)
  by_cases hn : (60 : Int) < (n : Int)
  · clear h hw0 hall hp hX
    go_enter Try.func6, Try.ntmps6
    go_wp2
    go_ret
    exact ⟨rfl, HB0.out⟩
  by_cases hp1 : p < -1
  · clear h hw0 hall hp hX
    go_enter Try.func6, Try.ntmps6
    go_wp2
    go_ret
    exact ⟨rfl, HB0.out⟩
  by_cases hpn : (n : Int) ≤ p
  · clear h hw0 hall hp hX
    go_enter Try.func6, Try.ntmps6
    go_wp2
    go_ret
    exact ⟨rfl, HB0.out⟩
  have hn1 : n ≤ 1000 := by omega
  have hn2 : n + 1 ≤ 1000 := by omega
  have HM := Lib.hid hn1
  have HL := Lib.hid h.1
  have HN := Lib.hid h
  have HD0 := Lib.hid (HB.out.drew)
  have CP := Lib.hid (fun W (hb : Below w0.heap.size w0 W) => treeCopy_any a n c L W (h.below hb) hn1)
  have TL := Lib.hid (fun a c W (h : NodesAt W a (n + 1) c (L ++ [X])) => told_in h hn2 W (Below.refl _ _))
  clear h hw0 hall hp hX hn1 hn2
  go_enter Try.func6, Try.ntmps6
  go_wp2
  go_cut [5] from 25 to 30 (fun v5 W => ∃ a3 c3, v5 = .slice a3 (n + 1 : Nat) c3 ∧ Hid (NodesAt W a3 (n + 1) c3 (L ++ [X])) ∧ Hid (Below w0.heap.size w0 W))
  case first =>
      refine wp_region_held_drew (S := fun W => Below w0.heap.size w0 W) (by kernel_rfl) HD0.out (fun hHeld => ?_)
      refine wpAnyH_take (i := 0) (oi := ⟨some 25, .move (.tmp 0), _, _, _, _⟩) (v := (.slice a n c)) rfl (by kernel_rfl) (by kernel_rfl) (by kernel_rfl) (fun _ _ _ h => h) (Or.inl ⟨by rfl, fun W hW => by go_simp⟩) (by assumption) ?_
      simp only [Act.put, List.setIfInBounds_toArray, List.set_cons_zero, List.set_cons_succ]
      refine wpAnyH_take (i := 2) (oi := ⟨some 27, .load 43 (.tmp 3), _, _, _, _⟩) (v := (.agg (nodeC X))) rfl (by kernel_rfl) (by kernel_rfl) (by kernel_rfl) (fun _ _ _ h => h) (Or.inl ⟨by rfl, fun W hW => exec_loadNodeR _ rfl _ _ X HX.out rfl (KN.out W hW)⟩) (by assumption) ?_
      simp only [Act.put, List.setIfInBounds_toArray, List.set_cons_zero, List.set_cons_succ]
      have HS0 := HD0
      refine wpAnyH_ready (rs := [1, 3]) (by kernel_rfl) (by simp) ?_
      refine AllReadyH.cons (o := ⟨some 26, .call { callee := .value (.func 19), args := #[.tmp 25], argTypes := #[22] }, _, _, _, _⟩) rfl (fun K hK => ?_) (AllReadyH.cons (o := ⟨some 28, .buildSlice 22 1 #[(0, .tmp 27)], _, _, _, _⟩) rfl (fun K hK => ?_) AllReadyH.nil)
      · go_simp
        go_wp2_with (go_at_call 19; (refine (CP.out _ HS0.out).mono ?_); rintro e W1 ⟨a1, c1, rfl, ho1, hb1⟩; have HO1 := Lib.hid ho1; have HB1 := Lib.hid hb1; clear ho1 hb1)
        have HS1 := Lib.hid (HS0.out.trans (HB1.out.mono HS0.out.size))
        refine hK.out _ _ HS1.out (fun hHeld => ?_)
        clear hK K
        refine wpAnyH_ready (rs := [3]) (by kernel_rfl) (by simp) ?_
        refine AllReadyH.cons (o := ⟨some 28, .buildSlice 22 1 #[(0, .tmp 27)], _, _, _, _⟩) rfl (fun K hK => ?_) AllReadyH.nil
        refine ready_step (wp_sl_node Try.underlying22 infoR _ rfl X HX.out rfl ?_)
        have HS2 := Lib.hid (HS1.out.alloc HS1.out.size (.cells (nodeC X) 43))
        refine hK.out _ _ HS2.out (fun hHeld => ?_)
        clear hK K
        refine wpAnyH_ready (rs := [4]) (by kernel_rfl) (by simp) ?_
        refine AllReadyH.cons (o := ⟨some 29, .call { callee := .builtin .append, args := #[.tmp 26, .tmp 28], argTypes := #[22, 22] }, _, _, _, _⟩) rfl (fun K hK => ?_) AllReadyH.nil
        refine ready_step (wp_app_nodes Try.underlying22 infoR (by decide) _ _ rfl _ _ L rfl (HO1.out.alloc _) _ 1 1 [X] rfl (one_node W1 X HX.out _ _ rfl) (by rw [HL.out]; have := HM.out; omega) (Nat.le_trans HB1.out.size (by simp)) (n + 1) (by rw [HL.out]) ?_); intro a2 c2 W3 ho3 hg3
        have HS3 := Lib.hid (HS2.out.grown hg3 HS2.out.size (fun k hk => Nat.le_trans (Nat.le_trans HS0.out.size (Nat.le_refl _)) (HO1.out.lt k hk).1))
        have HN3 : Hid (NodesAt W3 a2 (n + 1) c2 (L ++ [X])) := Lib.hid (ho3.isNodes)
        clear ho3 hg3
        refine hK.out _ _ HS3.out (fun hHeld => ?_)
        clear hK K
        refine wpAnyH_ready (rs := [5]) (by kernel_rfl) (by simp) ?_
        refine AllReadyH.cons (o := ⟨some 30, .call { callee := .value (.func 11), args := #[.tmp 29], argTypes := #[22] }, _, _, _, _⟩) rfl (fun K hK => ?_) AllReadyH.nil
        go_simp
        go_wp2_with (go_at_call 11; (with_reducible refine (TL.out _ _ _ HN3.out).mono ?_); rintro e W4 ⟨a3, c3, rfl, hnd, hb⟩; have HN4 := Lib.hid hnd; have HS4 := Lib.hid (HS3.out.trans (hb.mono HS3.out.size)); clear hb hnd)
        refine hK.out _ _ HS4.out (fun hHeld => ?_)
        clear hK K
        refine wpAnyH_take (i := 6) (oi := ⟨some 5, .assign (.tmp 30), _, _, _, _⟩) (v := (.slice a3 (n + 1 : Nat) c3)) rfl (by kernel_rfl) (by kernel_rfl) (by kernel_rfl) (fun _ _ _ h => h) (Or.inl ⟨by rfl, fun W hW => by go_simp⟩) (by assumption) ?_
        simp only [Act.put, List.setIfInBounds_toArray, List.set_cons_zero, List.set_cons_succ]
        refine wpAnyH_done (by kernel_rfl) ?_ _
        go_wp2_with fail
        go_meet
        exact ⟨a3, c3, rfl, HN4, HS4⟩
      · refine ready_step (wp_sl_node Try.underlying22 infoR _ rfl X HX.out rfl ?_)
        have HS1 := Lib.hid (HS0.out.alloc HS0.out.size (.cells (nodeC X) 43))
        have HON := Lib.hid (one_node w0.drew X HX.out 43 (nodeC X) rfl : NodesAt (w0.drew.alloc (.cells (nodeC X) 43)) _ 1 1 [X])
        refine hK.out _ _ HS1.out (fun hHeld => ?_)
        clear hK K
        refine wpAnyH_ready (rs := [1]) (by kernel_rfl) (by simp) ?_
        refine AllReadyH.cons (o := ⟨some 26, .call { callee := .value (.func 19), args := #[.tmp 25], argTypes := #[22] }, _, _, _, _⟩) rfl (fun K hK => ?_) AllReadyH.nil
        go_simp
        go_wp2_with (go_at_call 19; (refine (CP.out _ HS1.out).mono ?_); rintro e W1 ⟨a1, c1, rfl, ho1, hb1⟩; have HO1 := Lib.hid ho1; have HB1 := Lib.hid hb1; clear ho1 hb1)
        have HS2 := Lib.hid (HS1.out.trans (HB1.out.mono HS1.out.size))
        refine hK.out _ _ HS2.out (fun hHeld => ?_)
        clear hK K
        refine wpAnyH_ready (rs := [4]) (by kernel_rfl) (by simp) ?_
        refine AllReadyH.cons (o := ⟨some 29, .call { callee := .builtin .append, args := #[.tmp 26, .tmp 28], argTypes := #[22, 22] }, _, _, _, _⟩) rfl (fun K hK => ?_) AllReadyH.nil
        refine ready_step (wp_app_nodes Try.underlying22 infoR (by decide) _ _ rfl _ _ L rfl HO1.out _ 1 1 [X] rfl (HON.out.below HB1.out) (by rw [HL.out]; have := HM.out; omega) HB1.out.size (n + 1) (by rw [HL.out]) ?_); intro a2 c2 W3 ho3 hg3
        have HS3 := Lib.hid (HS2.out.grown hg3 HS2.out.size (fun k hk => Nat.le_trans (Nat.le_trans HS0.out.size (by simp)) (HO1.out.lt k hk).1))
        have HN3 : Hid (NodesAt W3 a2 (n + 1) c2 (L ++ [X])) := Lib.hid (ho3.isNodes)
        clear ho3 hg3
        refine hK.out _ _ HS3.out (fun hHeld => ?_)
        clear hK K
        refine wpAnyH_ready (rs := [5]) (by kernel_rfl) (by simp) ?_
        refine AllReadyH.cons (o := ⟨some 30, .call { callee := .value (.func 11), args := #[.tmp 29], argTypes := #[22] }, _, _, _, _⟩) rfl (fun K hK => ?_) AllReadyH.nil
        go_simp
        go_wp2_with (go_at_call 11; (with_reducible refine (TL.out _ _ _ HN3.out).mono ?_); rintro e W4 ⟨a3, c3, rfl, hnd, hb⟩; have HN4 := Lib.hid hnd; have HS4 := Lib.hid (HS3.out.trans (hb.mono HS3.out.size)); clear hb hnd)
        refine hK.out _ _ HS4.out (fun hHeld => ?_)
        clear hK K
        refine wpAnyH_take (i := 6) (oi := ⟨some 5, .assign (.tmp 30), _, _, _, _⟩) (v := (.slice a3 (n + 1 : Nat) c3)) rfl (by kernel_rfl) (by kernel_rfl) (by kernel_rfl) (fun _ _ _ h => h) (Or.inl ⟨by rfl, fun W hW => by go_simp⟩) (by assumption) ?_
        simp only [Act.put, List.setIfInBounds_toArray, List.set_cons_zero, List.set_cons_succ]
        refine wpAnyH_done (by kernel_rfl) ?_ _
        go_wp2_with fail
        go_meet
        exact ⟨a3, c3, rfl, HN4, HS4⟩
  case rest =>
    obtain ⟨a3, c3, rfl, HN4, HS4⟩ := hcut
    clear CP TL kp hAl
    have HM1 := Lib.hid (show n + 1 ≤ 1000 by have := HM.out; omega)
    have HL1 := Lib.hid (show (L ++ [X]).length = n + 1 by simp [HL.out])
    have HNX := Lib.hid (show nd (L ++ [X]) n = X by unfold nd; simp [← HL.out])
    have HNL := Lib.hid (show ∀ i, i < n → nd (L ++ [X]) i = nd L i from fun i hi => by unfold nd; have := HL.out; rw [List.getD_eq_getElem?_getD, List.getD_eq_getElem?_getD, List.getElem?_append_left (by omega)])
    have HNN := Lib.hid (show n < n + 1 by omega)
    have hn60 : (n : Int) ≤ 60 := by omega
    obtain ⟨N1, hN1⟩ : ∃ N1, N1 = n + 1 := ⟨_, rfl⟩
    have HN1 := Lib.hid hN1
    have hN1I : (N1 : Int) ≤ 61 := by omega
    rw [← hN1] at HN4 HM1 HL1 HNN ⊢
    by_cases hR : RightT (L ++ [X])
    · obtain ⟨l, hl⟩ := ord_ex hR.2
      have HOL := Lib.hid hl
      have HT := Lib.hid hR.2
      have RI := Lib.hid (right_any a3 N1 c3 (L ++ [X]) _ HN4.out HM1.out true ⟨fun _ => hR, fun _ => rfl⟩)
      have OR := Lib.hid (fun W (h : NodesAt W a3 N1 c3 (L ++ [X])) => order_in hR hl a3 N1 c3 W h HM1.out)
      have HLL := Lib.hid (show l.length = N1 from (ordT_length hl).trans HL1.out)
      clear hR hl hN1
      go_wp2_with (go_at_call 10; (with_reducible refine RI.out.mono ?_); rintro e W1 ⟨rfl, hb⟩; have HS := Lib.hid (HS4.out.trans (hb.mono HS4.out.size)); have HN5 := Lib.hid (HN4.out.below hb); clear hb)
      go_loopg [6] n (fun g v6 W => ∃ i : Nat, Below w0.heap.size w0 W ∧ v6 = .int .i64 i ∧ g + i = n ∧ Hid (NodesAt W a3 N1 c3 (L ++ [X])) ∧ Hid (∀ k, k < i → keyF (nd L k).k X.k ≤ 0))
      case atStart => exact ⟨0, HS.out, rfl, rfl, HN5, Lib.hid (fun k hk => by omega)⟩
      case round =>
        obtain ⟨i, hbw, rfl, hg, HNw, HK⟩ := hrel
        have HG := Lib.hid hg
        have HBr := Lib.hid hbw
        have hi0 : (0 : Int) ≤ (i : Int) := by omega
        have hiI : (i : Int) ≤ (n : Int) := by omega
        by_cases hi : (i : Int) < (n : Int)
        · have hin : i < n := by omega
          have HI := Lib.hid hin
          obtain ⟨b, o, rfl⟩ := HN.out.some_ (by omega)
          have HNd := Lib.hid (HN.out.below (below_drewK hbw 1))
          have HCi := Lib.hid (HNd.out.key i hin)
          have HCx := Lib.hid (KK.out _ (below_drewK hbw 1))
          have HXi := Lib.hid (HN.out.ok hin).1
          obtain ⟨z, hz⟩ : ∃ z, keyF (nd L i).k X.k = z := ⟨_, rfl⟩
          have HZ := Lib.hid hz
          have KA := Lib.hid (fun W => keys_is _ _ z hz W HXi.out HX.out.1)
          clear hg hz hin
          go_wp2
          refine wp_region_still_tail 7 (by kernel_rfl) (by kernel_rfl) ?_
          simp only [List.take_succ_cons, List.take_zero, List.drop_succ_cons, List.drop_zero]
          iterate 4 still_step
          refine still_w (by rfl) (exec_loadKey _ rfl _ _ _ HXi.out rfl HCi.out) ?_
          simp only [Act.put, List.setIfInBounds_toArray, List.set_cons_zero, List.set_cons_succ]
          iterate 1 still_step
          refine still_w (by rfl) (exec_loadKey _ rfl _ _ _ HX.out.1 rfl HCx.out) ?_
          simp only [Act.put, List.setIfInBounds_toArray, List.set_cons_zero, List.set_cons_succ]
          refine wpStill_nil ?_
          change wpList _ _ _ _ _ wr.drew
          have HBd := Lib.hid (HBr.out.drew)
          have HNw := Lib.hid (HNw.out.below (Below.refl _ _).drew)
          generalize wr.drew = wd at HBd HNw ⊢
          by_cases hz0 : (0 : Int) < z
          · go_wp2_with (first
              | (go_at_call 20; (with_reducible refine (KA.out _).mono ?_); rintro e w8 ⟨rfl, hb8⟩; have HB8 := Lib.hid (HBd.out.trans (hb8.mono HBd.out.size)); clear hb8)
              | (go_at_call 14; (with_reducible refine (AW.out _).mono ?_); rintro e W1 ⟨rfl, hb⟩; have HB8 := Lib.hid (HB8.out.trans (hb.mono HB8.out.size)); clear hb))
            (try rw [Exit.noGoto_ret])
            go_ret
            exact ⟨rfl, HB0.out.trans (HB8.out.mono HB0.out.size)⟩
          · have HZ0 := Lib.hid hz0
            go_wp2_with (first
              | (go_at_call 20; (with_reducible refine (KA.out _).mono ?_); rintro e w8 ⟨rfl, hb8⟩; have HB8 := Lib.hid (HBd.out.trans (hb8.mono HBd.out.size)); have HN8 := Lib.hid (HNw.out.below hb8); clear hb8))
            go_roundg (n - (i + 1))
            case measure => have := HG.out; have := HI.out; omega
            case rel =>
              refine ⟨i + 1, HB8.out, by go_num, by have := HG.out; have := HI.out; omega, HN8, Lib.hid (fun k hk => ?_)⟩
              rcases Nat.lt_or_ge k i with h | h
              · exact HK.out k h
              · obtain rfl : k = i := by omega
                rw [HZ.out]
                have := HZ0.out
                omega
        · have hin : i = n := by omega
          subst hin
          have HMX : Hid (∀ k, k < (L ++ [X]).length → keyF (nd (L ++ [X]) k).k (nd (L ++ [X]) i).k ≤ 0) := Lib.hid (fun k hk => by
            rw [HL1.out] at hk
            have := HN1.out
            rw [HNX.out]
            rcases Nat.lt_or_ge k i with h | h
            · rw [HNL.out k h]; exact HK.out k h
            · obtain rfl : k = i := by omega
              rw [HNX.out, keyF_self]
              exact Int.le_refl _)
          have dl : ((N1 : Int) != (N1 : Int)) = false := by simp
          clear hg
          go_wp2_with (go_at_call 12; (with_reducible refine (OR.out _ HNw.out).mono ?_); rintro e W6 ⟨ao, co, rfl, ho, hb⟩; have HO := Lib.hid ho; have HS6 := Lib.hid (HBr.out.trans (hb.mono HBr.out.size)); clear hb ho)
          go_loopg [8, 9] N1 (fun g v8 v9 W => ∃ (t : Nat) (z : Int), Below W6.heap.size W6 W ∧ v8 = .int .i64 z ∧ v9 = .int .i64 t ∧ g + t = N1 ∧ Hid (∀ k, k < t → l.getD k 0 ≠ i) ∧ Hid ((t = 0 → z = -1) ∧ (0 < t → z = ((l.getD (t - 1) 0 : Nat) : Int))))
          case atStart => exact ⟨0, -1, Below.refl _ _, rfl, rfl, rfl, Lib.hid (fun k hk => by omega), Lib.hid ⟨fun _ => rfl, fun h => by omega⟩⟩
          case round =>
            obtain ⟨t, z, hbw, rfl, rfl, hg, HNT, HZ⟩ := hrel
            have HG := Lib.hid hg
            have HB7 := Lib.hid hbw
            have HS7 := Lib.hid (HS6.out.trans (hbw.mono HS6.out.size))
            have kp := KP.out _ HS7.out
            have ht0 : (0 : Int) ≤ (t : Int) := by omega
            have htI : (t : Int) ≤ (N1 : Int) := by omega
            by_cases ht : (t : Int) < (N1 : Int)
            · have htn : t < N1 := by omega
              have HTN := Lib.hid htn
              obtain ⟨b, o, rfl⟩ := HO.out.some_ (by omega)
              have co := (HO.out.below hbw).cell t htn
              obtain ⟨u, hu⟩ : ∃ u, u = l.getD t 0 := ⟨_, rfl⟩
              have HU := Lib.hid hu
              rw [← hu] at co
              unfold N at co
              clear hu hg htn
              by_cases hui : u = i
              · have e1 : ((u : Int) == (i : Int)) = true := by simp [hui]
                have NP := next_place HT.out HOL.out (by rw [HLL.out]; exact HTN.out) (HU.out.symm.trans hui) HMX.out
                rw [HNX.out, ← HP.out] at NP
                clear hui
                by_cases hp0 : p < 0
                · have ez : ((t : Int) == 0) = true := by
                    have := NP.1 (by omega)
                    simp [this]
                  clear NP
                  go_wp2_with (go_at_call 14; (with_reducible refine (AW.out _).mono ?_); rintro e W1 ⟨rfl, hb⟩; have HS8 := Lib.hid (HS7.out.trans (hb.mono HS7.out.size)); clear hb)
                  (try rw [Exit.noGoto_ret])
                  go_ret
                  exact ⟨rfl, HB0.out.trans (HS8.out.mono HB0.out.size)⟩
                · have ez : (z == p) = true := by
                    obtain ⟨h1, h2⟩ := NP.2 p.toNat (by omega)
                    have h3 := HZ.out.2 h1
                    rw [h2] at h3
                    simp; omega
                  clear NP
                  go_wp2_with (go_at_call 14; (with_reducible refine (AW.out _).mono ?_); rintro e W1 ⟨rfl, hb⟩; have HS8 := Lib.hid (HS7.out.trans (hb.mono HS7.out.size)); clear hb)
                  (try rw [Exit.noGoto_ret])
                  go_ret
                  exact ⟨rfl, HB0.out.trans (HS8.out.mono HB0.out.size)⟩
              · have e1 : ((u : Int) == (i : Int)) = false := by simp; omega
                have HUI := Lib.hid hui
                clear hui
                go_wp2
                go_roundg (N1 - (t + 1))
                case measure => have := HG.out; have := HTN.out; omega
                case rel =>
                  refine ⟨t + 1, (u : Int), HB7.out, rfl, by go_num, by have := HG.out; have := HTN.out; omega, Lib.hid (fun k hk => ?_), Lib.hid ⟨fun h => by omega, fun _ => ?_⟩⟩
                  · rcases Nat.lt_or_ge k t with h | h
                    · exact HNT.out k h
                    · obtain rfl : k = t := by omega
                      rw [← HU.out]
                      exact HUI.out
                  · rw [HU.out]; rfl
            · exfalso
              obtain ⟨k, hk, e⟩ := List.getElem_of_mem ((HOL.out.2 i).2 (by rw [HL1.out]; exact HNN.out))
              have hkl := HLL.out
              exact HNT.out k (by omega) (by simp [hk, e])
    · have RI := Lib.hid (right_any a3 N1 c3 (L ++ [X]) _ HN4.out HM1.out false ⟨fun h => (Bool.false_ne_true h).elim, fun h => absurd h hR⟩)
      clear hR hN1
      go_wp2_with (first
        | (go_at_call 10; (with_reducible refine RI.out.mono ?_); rintro e W1 ⟨rfl, hb⟩; have HS := Lib.hid (HS4.out.trans (hb.mono HS4.out.size)); clear hb)
        | (go_at_call 14; (with_reducible refine (AW.out _).mono ?_); rintro e W1 ⟨rfl, hb⟩; have HS := Lib.hid (HS.out.trans (hb.mono HS.out.size)); clear hb))
      go_ret
      exact ⟨rfl, HB0.out.trans (HS.out.mono HB0.out.size)⟩
#print axioms treeNext_any
end Go.Proofs.Ytmenhbdapikpeaa
