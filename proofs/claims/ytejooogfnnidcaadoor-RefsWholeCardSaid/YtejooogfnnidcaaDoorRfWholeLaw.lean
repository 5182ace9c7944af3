/-
  The law: updates done one by one come to the same.
-/
import Derived.Test.YtejooogfnnidcaaDoorRfSame
namespace Go.Proofs.YtejooogfnnidcaaDoor
open Go.RowKit

def noteB : List UInt8 := [110, 111, 116, 101]
theorem noteOk : noteF noteB = true := by kernel_rfl
open Classical in
noncomputable def resL (s : RefsV) (M : List UpdV) : RefsV × Nat := if RightV s then applyF noteB s M else (noRefs, 1)
open Classical in
theorem apply_res (S : RfS) (s : RefsV) (a : Option Addr) (n c : Nat) (L : List UpdV) (w : World) (h : RfIn w S s) (hs : RfLen s) (hL : AtG upK w a n c L) (hn : n ≤ 100000) (hT : Tabs w) (Z : RefsV × Nat) (hZ : resL s L = Z) :
    Calls Tryd.prog 15 #[.agg (rfC S s.head s.at_), .slice a n c, .string ⟨#[110, 111, 116, 101]⟩] w (ApplyIs w Z) := by
  subst hZ
  have := apply_any S s a n c L noteB ⟨#[110, 111, 116, 101]⟩ rfl w h hs hL (by decide) hn hT (decide (RightV s)) true decide_eq_true_iff noteOk
  have e : (if (decide (RightV s) && true) = true then applyF noteB s L else (noRefs, 1)) = resL s L := by
    unfold resL
    by_cases h : RightV s
    · simp [h]
    · simp [h]
  rw [e] at this
  exact this
theorem logLen {s : RefsV} {x : EntV} (h : RfLen s) (h1 : x.upd.name.length ≤ 100000) (h2 : x.note.length ≤ 100000) : RfLen (logF s x) := fun e he => by
  rcases List.mem_append.1 he with he | he
  · split at he
    · exact h e (List.mem_of_mem_eraseIdx he)
    · exact h e he
  · rw [List.mem_singleton.1 he]; exact ⟨h1, h2⟩
structure WhI (L : List UpdV) (Z : RefsV × Nat) (i : Nat) (s : RefsV) (f : Nat) : Prop where
  go : f = 0 → resL s (L.drop i) = Z
  no : f ≠ 0 → Z = (noRefs, f)
  rt : f = 0 → i = 0 ∨ RightV s
  ln : f = 0 → RfLen s
theorem WhI.step {L : List UpdV} {Z : RefsV × Nat} {i : Nat} {s : RefsV} (h : WhI L Z i s 0) (hi : i < L.length) {R : RefsV × Nat} (hR : resL s [gd L i] = R) : WhI L Z (i + 1) R.1 R.2 := by
  subst hR
  have hd : L.drop i = gd L i :: L.drop (i + 1) := by rw [List.drop_eq_getElem_cons hi, gd_is hi]
  have hg := h.go rfl
  rw [hd] at hg
  have hl := h.ln rfl
  unfold resL at hg ⊢
  by_cases hr : RightV s
  · rw [if_pos hr] at hg ⊢
    unfold applyF at hg ⊢
    by_cases h0 : (oneR s (gd L i)).2 = 0
    · rw [if_pos h0] at hg ⊢
      have hs := step_right (n := noteB) hr noteOk h0
      obtain ⟨o1, o2, _, _, o5⟩ := oneR_right hr h0
      refine ⟨fun _ => ?_, fun h => absurd rfl h, fun _ => .inr hs, fun _ => ?_⟩
      · show resL _ _ = _
        unfold resL
        rw [if_pos (show RightV (applyF noteB (logF (oneR s (gd L i)).1 ⟨gd L i, noteB⟩) []).1 from hs)]
        exact hg
      · refine logLen (x := ⟨gd L i, noteB⟩) (fun e he => ?_) (by show (gd L i).name.length ≤ _; omega) (by show noteB.length ≤ 100000; decide)
        rw [o2] at he
        exact hl e he
    · rw [if_neg h0] at hg ⊢
      exact ⟨fun h => absurd h h0, fun _ => hg.symm, fun h => absurd h h0, fun h => absurd h h0⟩
  · rw [if_neg hr] at hg ⊢
    exact ⟨fun h => absurd h (show ¬ (1 : Nat) = 0 by decide), fun _ => hg.symm, fun h => absurd h (show ¬ (1 : Nat) = 0 by decide), fun h => absurd h (show ¬ (1 : Nat) = 0 by decide)⟩
theorem built_zrr : Tryd.prog.built 27 [] = some (rfC noS [] zId) := by kernel_rfl
set_option maxRecDepth 100000 in
theorem exec_zrr {w : World} {o : Oper} {a : Act} (ho : o.op = .build 27 #[]) : (execOp a.eval o).run Tryd.prog w = .ok (.value (.agg (rfC noS [] zId))) w := by
  refine exec_build _ _ ho _ ?_
  have e : (#[].map fun (q : Nat × Operand) => (q.1, a.eval q.2)).toList = [] := by simp
  exact (congrArg _ e).trans built_zrr
theorem piece_at {w : World} {b o n c i : Nat} {L : List UpdV} (h : AtG upK w (some ⟨b, o, none⟩) n c L) (hi : i < n) : AtG upK w (some ⟨b, o + i * 66, none⟩) 1 (c - i) [gd L i] := by
  obtain ⟨h1, h2, h3, h4, h5⟩ := id h
  refine ⟨rfl, by omega, by omega, fun x hx => by rw [List.mem_singleton.1 hx]; exact h.ok hi, .inr ⟨b, o + i * 66, rfl, fun j hj k v hv => ?_⟩⟩
  obtain rfl : j = 0 := by omega
  have := h.at_ i hi k v hv
  rw [Nat.zero_mul, Nat.add_zero]
  exact this

theorem piece_exec {w : World} {o : Oper} {a : Act} (x y z : Operand) (ho : o.op = .slice 44 x (some y) (some z) none) (b off n c i : Nat) (hi : i < n) (hc : n ≤ c) (hx : a.eval x = .slice (some ⟨b, off, none⟩) n c) (hy : a.eval y = .int .i64 (i : Nat)) (hz : a.eval z = .int .i64 ((i : Nat) + 1)) :
    (execOp a.eval o).run Tryd.prog w = .ok (.value (.slice (some ⟨b, off + i * 66, none⟩) 1 (c - i))) w := by
  have hT := Tryd.underlying44
  have hrun : (Instr.sliceAt 44 (.slice (some ⟨b, off, none⟩) n c) (some (.int .i64 (i : Int))) (some (.int .i64 ((i : Int) + 1))) none).run Tryd.prog w = .ok (.slice (some ⟨b, off + i * 66, none⟩) 1 (c - i)) w := by
    have e1 : ((i : Int) + 1).toNat = i + 1 := by omega
    have e3 : (i : Int) + 1 ≤ (c : Int) := by omega
    have e4 : (i : Int) ≤ (i : Int) + 1 := by omega
    have e5 : ¬ c = i := by omega
    obtain ⟨i0, hi0, hz0, hz1, hz2⟩ := info_parts infoUf
    have hs : (sizeOf UEf).run Tryd.prog w = .ok 66 w := by simp [sizeOf, typeInfo, hi0, hz1]
    simp [go_sem, hT, e1, e3, e4, e5, hs, Addr.add_lit]
  unfold execOp
  simp [ho, hx, hy, hz, hrun, Result.andThen]
theorem wp_loadRf {o : Oper} {a : Act} {w : World} {K : Act → World → Prop} {Q : Exit → Act → World → Prop} (x : Operand) (ho : o.op = .load REf x) (g : Nat) (S : RfS) (h m : List UInt8) (hm : m.length = 32) (hx : a.eval x = .pointer (some ⟨g, 0, none⟩)) (hc : RowAt w g REf (rfL S h m)) (hK : K (a.put o.dst (.agg (rfC S h m))) w) : o.wp Tryd.prog a w K Q := by
  unfold Oper.wp
  rw [exec_loadRf x ho g S h m hm hx hc]
  exact hK
theorem few_no {w : World} {base : Nat} {S : RfS} {r : RefsV} (h : RfOwn w base S r) (hr : r = noRefs) : RfFew S := by
  subst hr
  have h1 := h.br.len
  have h2 := h.tg.len
  have h3 := h.log.len
  have e1 : noRefs.br.length = 0 := rfl
  have e2 : noRefs.tg.length = 0 := rfl
  have e3 : noRefs.log.length = 0 := rfl
  exact ⟨by omega, by omega, by omega⟩
theorem Of.in_ {w : World} {base : Nat} {S : RfS} {r : RefsV} (h : Of.RfOwn w base S r) : RfIn w S r := ⟨h.br.atG, h.tg.atG, h.log.atG, h.at_⟩
theorem Of.few {w : World} {base : Nat} {S : RfS} {r : RefsV} (h : Of.RfOwn w base S r) (h1 : r.br.length ≤ 100000) (h2 : r.tg.length ≤ 100000) (h3 : r.log.length ≤ 100000) : RfFew S := by
  have a1 := h.br.len
  have a2 := h.tg.len
  have a3 := h.log.len
  exact ⟨by omega, by omega, by omega⟩
theorem sameTwo (S S' : RfS) (s : RefsV) (w : World) {base base' : Nat} (h : Of.RfOwn w base S s) (h' : Of.RfOwn w base' S' s) (hr : RightV s) :
    Calls Tryd.prog 16 #[.agg (rfC S s.head s.at_), .agg (rfC S' s.head s.at_)] w fun e w' => e = .returned (.bool true) ∧ Below w.heap.size w w' :=
  sameRf_any S S' s w (Of.in_ h) (Of.in_ h') (Of.few h (by have := hr.1.1; omega) (by have := hr.2.1.1; omega) (by have := hr.2.2.2.1; omega))
theorem Of.below {w w' : World} {base : Nat} {S : RfS} {r : RefsV} (h : Of.RfOwn w base S r) (hb : Below w.heap.size w w') : Of.RfOwn w' base S r := Of.RfOwn.below h hb
theorem sameNo (S : RfS) (r : RefsV) (w : World) {base : Nat} (h : Of.RfOwn w base S r) (hr : r = noRefs) :
    Calls Tryd.prog 16 #[.agg (rfC S r.head r.at_), .agg (rfC noS [] zId)] w fun e w' => e = .returned (.bool true) ∧ Below w.heap.size w w' := by
  subst hr
  exact sameRf_any S noS noRefs w (Of.in_ h) (RfIn.none w) (Of.few h (by decide) (by decide) (by decide))

set_option maxRecDepth 100000 in
set_option maxHeartbeats 8000000 in
theorem refsWhole_any (S : RfS) (r : RefsV) (a : Option Addr) (n c : Nat) (L : List UpdV) (w : World) (h : RfIn w S r) (hL : AtG upK w a n c L) (hT : Tabs w) :
    Calls Tryd.prog 4 #[.agg (rfC S r.head r.at_), .slice a n c] w fun e w' => e = .returned (.bool true) ∧ Below w.heap.size w w' := by
  obtain ⟨q, hq⟩ : ∃ q : Bool, q = true ↔ LightV r := by classical exact ⟨decide (LightV r), decide_eq_true_iff⟩
  have HAT := Lib.hid h.at_
  have HIN := Lib.hid h
  have HLA := Lib.hid hL
  have HLN := Lib.hid hL.1
  have HQ := Lib.hid hq
  have HTB := Lib.hid (fun W (hW : Below w.heap.size w W) => hT.below hW)
  have HB0 := Lib.hid ((Below.refl w.heap.size w).alloc (Nat.le_refl _) (.cells (rfC S r.head r.at_) RREf))
  have HR0 := Lib.hid (show RowAt (w.alloc (.cells (rfC S r.head r.at_) RREf)) w.heap.size RREf (rfL S r.head r.at_) from heap_alloc_new w _)
  have HLT := Lib.hid (fun W (hW : Below w.heap.size w W) => light_any S r W (h.below hW) q hq)
  have HAW := Lib.hid (fun W (hW : Below w.heap.size w W) => awake_any W (hT.below hW))
  obtain ⟨Z, hZ⟩ : ∃ Z, resL r L = Z := ⟨_, rfl⟩
  have HZE := Lib.hid hZ
  have hn0 : (0 : Int) ≤ (n : Int) := by omega
  clear h hL hT hq hZ
  cases q
  · go_enter Tryd.func4, Tryd.ntmps4
    go_wp2_with (first
      | ((with_reducible show wpList _ _ _ (⟨some 10, _, _, _, _, _⟩ :: _) _ _); go_must (refine wl_ex rfl (exec_loadRr _ rfl _ S r.head r.at_ HAT.out rfl HR0.out) ?_))
      | (go_at_call 7; go_must (refine (HLT.out _ HB0.out).mono ?_); rintro e w2 ⟨rfl, hb⟩; have HB2 := Lib.hid (HB0.out.trans (hb.mono HB0.out.size)); have HR2 := Lib.hid (HR0.out.below hb); clear hb))
    go_ret
    exact ⟨rfl, HB2.out⟩
  · have HLV := Lib.hid (HQ.out.1 rfl)
    by_cases hl : (40 : Int) < (n : Int)
    · have d1 : decide (40 < n) = true := decide_eq_true (by omega)
      go_enter Tryd.func4, Tryd.ntmps4
      go_wp2_with (first
        | ((with_reducible show wpList _ _ _ (⟨some 10, _, _, _, _, _⟩ :: _) _ _); go_must (refine wl_ex rfl (exec_loadRr _ rfl _ S r.head r.at_ HAT.out rfl HR0.out) ?_))
        | (go_at_call 7; go_must (refine (HLT.out _ HB0.out).mono ?_); rintro e w2 ⟨rfl, hb⟩; have HB2 := Lib.hid (HB0.out.trans (hb.mono HB0.out.size)); have HR2 := Lib.hid (HR0.out.below hb); clear hb))
      go_ret
      exact ⟨rfl, HB2.out⟩
    · have d1 : decide (40 < n) = false := decide_eq_false (by omega)
      have HFW := Lib.hid (HLV.out.few HIN.out)
      have HN4 : Hid (n ≤ 100000) := Lib.hid (by omega)
      have hnI : (n : Int) ≤ 40 := by omega
      go_enter Tryd.func4, Tryd.ntmps4
      go_wp2_with (first
        | ((with_reducible show wpList _ _ _ (⟨some 10, _, _, _, _, _⟩ :: _) _ _); go_must (refine wl_ex rfl (exec_loadRr _ rfl _ S r.head r.at_ HAT.out rfl HR0.out) ?_))
        | (go_at_call 7; go_must (refine (HLT.out _ HB0.out).mono ?_); rintro e w2 ⟨rfl, hb⟩; have HB2 := Lib.hid (HB0.out.trans (hb.mono HB0.out.size)); have HR2 := Lib.hid (HR0.out.below hb); clear hb)
        | ((with_reducible show wpList _ _ _ (⟨some 19, _, _, _, _, _⟩ :: _) _ _); go_must (refine wl_ex rfl (exec_loadRr _ rfl _ S r.head r.at_ HAT.out rfl HR2.out) ?_))
        | (go_at_call 9; (with_reducible refine (told_any S r w2 (HIN.out.below HB2.out) HFW.out).mono ?_); rintro e w3 ⟨S3, rfl, ho, hb⟩; have HT3 := Lib.hid (ho.mono HB2.out.size); have HB3 := Lib.hid (HB2.out.trans (hb.mono HB2.out.size)); have HR3 := Lib.hid (HR2.out.below hb); clear ho hb)
        | (go_at_call 15; go_must (refine (apply_res S3 r a n c L _ HT3.out.in_ HLV.out.len (HLA.out.below HB3.out) HN4.out (HTB.out _ HB3.out) Z HZE.out).mono ?_); rintro e w4 ⟨S4, rfl, ho, hb⟩; have HO4 := Lib.hid (ho.mono HB3.out.size); have HB4 := Lib.hid (HB3.out.trans (hb.mono HB3.out.size)); have HR4 := Lib.hid (HR3.out.below hb); clear ho hb)
        | ((with_reducible show wpList _ _ _ (⟨some 5, _, _, _, _, _⟩ :: _) _ _); go_must (refine alloc_rf rfl rfl ?_); intro w5 hz hb; have HY5 := Lib.hid hz; have HG5 := Lib.hid (show w.heap.size < w4.heap.size from HR4.out.lt); have HO5 := Lib.hid (HO4.out.below hb); have HB5 := Lib.hid (HB4.out.trans (hb.mono HB4.out.size)); have HR5 := Lib.hid (HR4.out.below hb); clear hb; generalize w4.heap.size = g5 at hz HY5 HG5 ⊢; clear hz)
        | ((with_reducible show wpList _ _ _ (⟨_, Op.store _ (.tmp 5) _, _, _, _, _⟩ :: _) _ _); go_must (refine wl_store_rf (S := S4) (h := Z.1.head) (a := Z.1.at_) HO5.out.at_ HY5.out (len36 rfl) rfl _ _ rfl rfl rfl ?_); intro w6 hz hg; have HZ6 := Lib.hid hz; have HO6 := Lib.hid (in_grown HO5.out HY5.out hg); have HR6 := Lib.hid (HR5.out.grown hg (fun e => by cases e; exact Nat.lt_irrefl _ HG5.out)); have HB6 := Lib.hid (HB5.out.grown hg HB5.out.size (fun k hk => by cases hk; exact Nat.le_of_lt HG5.out)); clear hz hg)
        | ((with_reducible show wpList _ _ _ (⟨some 25, _, _, _, _, _⟩ :: _) _ _); go_must (refine wl_ex rfl (exec_loadRr _ rfl _ S r.head r.at_ HAT.out rfl HR6.out) ?_))
        | (go_at_call 9; (with_reducible refine (told_any S r w6 (HIN.out.below HB6.out) HFW.out).mono ?_); rintro e w7 ⟨S7, rfl, ho, hb⟩; have HT7 := Lib.hid (ho.mono HB6.out.size); have HB7 := Lib.hid (HB6.out.trans (hb.mono HB6.out.size)); have HR7 := Lib.hid (HR6.out.below hb); have HZ7 := Lib.hid (HZ6.out.below hb); have HO7 := Lib.hid (HO6.out.below hb); clear ho hb)
        | ((with_reducible show wpList _ _ _ (⟨some 7, _, _, _, _, _⟩ :: _) _ _); go_must (refine alloc_rf rfl rfl ?_); intro w8 hz hb; have HY8 := Lib.hid hz; have HG7 : Hid (w.heap.size < w7.heap.size ∧ g5 < w7.heap.size) := Lib.hid ⟨HR7.out.lt, HZ7.out.lt⟩; have HT8 := Lib.hid (HT7.out.below hb); have HO8 := Lib.hid (HO7.out.below hb); have HZ8 := Lib.hid (HZ7.out.below hb); have HB8 := Lib.hid (HB7.out.trans (hb.mono HB7.out.size)); have HR8 := Lib.hid (HR7.out.below hb); clear hb; generalize w7.heap.size = g7 at hz HY8 HG7 ⊢; clear hz)
        | ((with_reducible show wpList _ _ _ (⟨_, Op.store _ (.tmp 7) _, _, _, _, _⟩ :: _) _ _); go_must (refine wl_store_rf (S := S7) (h := r.head) (a := r.at_) HAT.out HY8.out (len36 rfl) rfl _ _ rfl rfl rfl ?_); intro w9 hz hg; have HY9 := Lib.hid hz; have HT9 := Lib.hid (in_grown HT8.out HY8.out hg); have HO9 := Lib.hid (in_grown HO8.out HY8.out hg); have HZ9 := Lib.hid (HZ8.out.grown hg (fun e => by cases e; exact Nat.lt_irrefl _ HG7.out.2)); have HR9 := Lib.hid (HR8.out.grown hg (fun e => by cases e; exact Nat.lt_irrefl _ HG7.out.1)); have HB9 := Lib.hid (HB8.out.grown hg HB8.out.size (fun k hk => by cases hk; exact Nat.le_of_lt HG7.out.1)); clear hz hg))
      go_loopg [8, 9] n (fun g v8 v9 W => ∃ (i : Nat) (f : Nat) (Ss : RfS) (s : RefsV), v8 = .int .i64 (f : Nat) ∧ v9 = .int .i64 i ∧ g + i = n ∧ Hid (Below w.heap.size w W) ∧ Hid (RowAt W g5 REf (rfL S4 Z.1.head Z.1.at_)) ∧ Hid (RfOwn W w.heap.size S4 Z.1) ∧ Hid (RowAt W g7 REf (rfL Ss s.head s.at_)) ∧ Hid (RfOwn W w.heap.size Ss s) ∧ Hid (WhI L Z i s f))
      case atStart => exact ⟨0, 0, S7, r, rfl, rfl, rfl, HB9, HZ9, HO9, HY9, HT9, Lib.hid ⟨fun _ => by rw [List.drop_zero]; exact HZE.out, fun h => absurd rfl h, fun _ => .inl rfl, fun _ => HLV.out.len⟩⟩
      case round =>
        obtain ⟨i, f, Ss, s, rfl, rfl, hg, HB, HZ, HO, HY, HT, HW⟩ := hrel
        have HG := Lib.hid hg
        have hi0 : (0 : Int) ≤ (i : Int) := by omega
        have hiI : (i : Int) ≤ (n : Int) := by omega
        by_cases hf : f = 0
        · subst hf
          by_cases hi : (i : Int) < (n : Int)
          · have hin : i < n := by omega
            have HI := Lib.hid hin
            obtain ⟨b, o, rfl⟩ := HLA.out.some_ (by omega)
            obtain ⟨R, hRe⟩ : ∃ R, resL s [gd L i] = R := ⟨_, rfl⟩
            have HRE := Lib.hid hRe
            have hcn : (n : Int) ≤ (c : Int) := by have := HLA.out.2.1; omega
            have hi1 : IntKind.i64.wrap ((i : Int) + 1) = (i : Int) + 1 := IntWalk.i64_in _ (by omega)
            clear hg hRe
            go_wp2
            have HBd : Hid (Below w.heap.size w wr.drew) := Lib.hid HB.out.drew
            refine wp_region_held_drew (S := fun _ => True) (by kernel_rfl) trivial (fun hHeld => ?_)
            refine wpAnyH_take (i := 1) (oi := ⟨some 39, .move (.tmp 1), _, _, _, _⟩) (v := (.slice (some ⟨b, o, none⟩) n c)) rfl (by kernel_rfl) (by kernel_rfl) (by kernel_rfl) (fun _ _ _ h => h) (Or.inl ⟨by rfl, fun W hW => by go_simp⟩) (by assumption) ?_
            simp only [Act.put, List.setIfInBounds_toArray, List.set_cons_zero, List.set_cons_succ]
            refine wpAnyH_take (i := 2) (oi := ⟨some 40, .move (.tmp 9), _, _, _, _⟩) (v := (.int .i64 (i : Nat))) rfl (by kernel_rfl) (by kernel_rfl) (by kernel_rfl) (fun _ _ _ h => h) (Or.inl ⟨by rfl, fun W hW => by go_simp⟩) (by assumption) ?_
            simp only [Act.put, List.setIfInBounds_toArray, List.set_cons_zero, List.set_cons_succ]
            refine wpAnyH_take (i := 3) (oi := ⟨some 41, .move (.tmp 9), _, _, _, _⟩) (v := (.int .i64 (i : Nat))) rfl (by kernel_rfl) (by kernel_rfl) (by kernel_rfl) (fun _ _ _ h => h) (Or.inl ⟨by rfl, fun W hW => by go_simp⟩) (by assumption) ?_
            simp only [Act.put, List.setIfInBounds_toArray, List.set_cons_zero, List.set_cons_succ]
            refine wpAnyH_take (i := 4) (oi := ⟨some 42, .binOp .add 3 (.tmp 41) (.const (.int .i64 1)) 3, _, _, _, _⟩) (v := (.int .i64 ((i : Nat) + 1))) rfl (by kernel_rfl) (by kernel_rfl) (by kernel_rfl) (fun _ _ _ h => h) (Or.inl ⟨by rfl, fun W hW => by go_simp⟩) (by assumption) ?_
            simp only [Act.put, List.setIfInBounds_toArray, List.set_cons_zero, List.set_cons_succ]
            refine wpAnyH_take (i := 5) (oi := ⟨some 43, .slice 44 (.tmp 39) (some (.tmp 40)) (some (.tmp 42)) none, _, _, _, _⟩) (v := (.slice (some ⟨b, o + i * 66, none⟩) 1 (c - i))) rfl (by kernel_rfl) (by kernel_rfl) (by kernel_rfl) (fun _ _ _ h => h) (Or.inl ⟨by rfl, fun W hW => piece_exec _ _ _ rfl b o n c i HI.out HLA.out.2.1 rfl rfl rfl⟩) (by assumption) ?_
            simp only [Act.put, List.setIfInBounds_toArray, List.set_cons_zero, List.set_cons_succ]
            refine wpAnyH_ready (rs := [0]) (by kernel_rfl) (by simp) ?_
            refine AllReadyH.cons (o := ⟨some 38, .load 34 (.tmp 7), _, _, _, _⟩) rfl (fun K hK => ?_) AllReadyH.nil
            refine ready_step (wp_loadRf _ rfl g7 Ss s.head s.at_ HT.out.at_ rfl HY.out ?_)
            refine hK.out _ _ trivial (fun hHeld => ?_)
            clear hK K
            refine wpAnyH_ready (rs := [6]) (by kernel_rfl) (by simp) ?_
            refine AllReadyH.cons (o := ⟨some 44, .call { callee := .value (.func 15), args := #[(.tmp 38), (.tmp 43), (.const (.string ⟨#[110, 111, 116, 101]⟩))], argTypes := #[34, 44, 9] }, _, _, _, _⟩) rfl (fun K hK => ?_) AllReadyH.nil
            go_simp
            refine (apply_res Ss s _ 1 (c - i) [gd L i] wr.drew (HT.out.below (Below.refl _ _).drew).in_ (HW.out.ln rfl) (piece_at (HLA.out.below HBd.out) HI.out) (by decide) (HTB.out _ HBd.out) R HRE.out).mono ?_
            rintro e w5b ⟨S5b, rfl, ho, hb⟩
            have HB5b := Lib.hid (HBd.out.trans (hb.mono HBd.out.size))
            have HT5b := Lib.hid (ho.mono HBd.out.size)
            have HZ5b := Lib.hid (HZ.out.below ((Below.refl wr.heap.size wr).drew.trans hb))
            have HO5b := Lib.hid (HO.out.below ((Below.refl wr.heap.size wr).drew.trans hb))
            have HY5b := Lib.hid (HY.out.below ((Below.refl wr.heap.size wr).drew.trans hb))
            clear ho hb
            refine hK.out _ _ trivial (fun hHeld => ?_)
            clear hK K
            refine wpAnyH_take (i := 7) (oi := ⟨some 37, .move (.tmp 44), _, _, _, _⟩) (v := (.tuple #[.agg (rfC S5b R.1.head R.1.at_), .int .i64 (R.2 : Nat)])) rfl (by kernel_rfl) (by kernel_rfl) (by kernel_rfl) (fun _ _ _ h => h) (Or.inl ⟨by rfl, fun W hW => by go_simp⟩) (by assumption) ?_
            simp only [Act.put, List.setIfInBounds_toArray, List.set_cons_zero, List.set_cons_succ]
            refine wpAnyH_take (i := 8) (oi := ⟨some 45, .extract (.tmp 37) 0, _, _, _, _⟩) (v := (.agg (rfC S5b R.1.head R.1.at_))) rfl (by kernel_rfl) (by kernel_rfl) (by kernel_rfl) (fun _ _ _ h => h) (Or.inl ⟨by rfl, fun W hW => by go_simp⟩) (by assumption) ?_
            simp only [Act.put, List.setIfInBounds_toArray, List.set_cons_zero, List.set_cons_succ]
            refine wpAnyH_take (i := 9) (oi := ⟨some 46, .extract (.tmp 37) 1, _, _, _, _⟩) (v := (.int .i64 (R.2 : Nat))) rfl (by kernel_rfl) (by kernel_rfl) (by kernel_rfl) (fun _ _ _ h => h) (Or.inl ⟨by rfl, fun W hW => by go_simp⟩) (by assumption) ?_
            simp only [Act.put, List.setIfInBounds_toArray, List.set_cons_zero, List.set_cons_succ]
            refine wpAnyH_ready (rs := [10]) (by kernel_rfl) (by simp) ?_
            refine AllReadyH.cons (o := ⟨none, .store 34 (.tmp 7) (.tmp 45), _, _, _, _⟩) rfl (fun K hK => ?_) AllReadyH.nil
            refine ready_step (wp_store_rf (S := S5b) (h := R.1.head) (m := R.1.at_) HT5b.out.at_ _ _ rfl g7 HY5b.out (len36 HT.out.at_) rfl rfl ?_)
            intro w6b hz hg
            have HY6b := Lib.hid hz
            have HT6b := Lib.hid (in_grown HT5b.out HY5b.out hg)
            have HO6b := Lib.hid (in_grown HO5b.out HY5b.out hg)
            have HZ6b := Lib.hid (HZ5b.out.grown hg (fun e => by cases e; exact Nat.lt_irrefl _ HG7.out.2))
            have HB6b := Lib.hid (HB5b.out.grown hg HB5b.out.size (fun k hk => by cases hk; exact Nat.le_of_lt HG7.out.1))
            clear hz hg
            refine hK.out _ _ trivial (fun hHeld => ?_)
            clear hK K
            refine wpAnyH_take (i := 11) (oi := ⟨some 8, .assign (.tmp 46), _, _, _, _⟩) (v := (.int .i64 (R.2 : Nat))) rfl (by kernel_rfl) (by kernel_rfl) (by kernel_rfl) (fun _ _ _ h => h) (Or.inl ⟨by rfl, fun W hW => by go_simp⟩) (by assumption) ?_
            simp only [Act.put, List.setIfInBounds_toArray, List.set_cons_zero, List.set_cons_succ]
            refine wpAnyH_done (by kernel_rfl) ?_ _
            go_wp2_with fail
            go_roundg (n - (i + 1))
            case measure => have := HG.out; have := HI.out; omega
            case rel => exact ⟨i + 1, R.2, S5b, R.1, rfl, by go_num, by have := HI.out; omega, HB6b, HZ6b, HO6b, HY6b, HT6b, Lib.hid (HW.out.step (by rw [HLN.out]; exact HI.out) HRE.out)⟩
          · have hgo := HW.out.go rfl
            rw [List.drop_of_length_le (by have := HLN.out; omega)] at hgo
            by_cases hs : RightV s
            · have hz : Z = (s, 0) := by rw [← hgo]; unfold resL; rw [if_pos hs]; rfl
              have HRS := Lib.hid hs
              have HLS := Lib.hid (HW.out.ln rfl)
              have hO2 := HO.out
              have hZ2 := HZ.out
              rw [hz] at hO2 hZ2
              have HO := Lib.hid hO2
              have HZ := Lib.hid hZ2
              have hz2 : Z.2 = 0 := by rw [hz]
              rw [hz2]
              clear hz hz2 hO2 hZ2 hgo hs hg
              go_wp2
              by_cases h0 : n = 0
              · have hnz : (n : Int) = 0 := by omega
                have HNZ := Lib.hid hnz
                clear h0 hnz
                have HBc : Hid (Below w.heap.size w wr.drew) := Lib.hid HB.out.drew
                have HZc : Hid (RowAt wr.drew g5 REf (rfL S4 s.head s.at_)) := Lib.hid HZ.out
                have HYc : Hid (RowAt wr.drew g7 REf (rfL Ss s.head s.at_)) := Lib.hid HY.out
                have HOc := Lib.hid (HO.out.below (Below.refl wr.heap.size wr).drew)
                have HTc := Lib.hid (HT.out.below (Below.refl wr.heap.size wr).drew)
                refine wp_region_held_drew (S := fun W => RowAt W g5 REf (rfL S4 s.head s.at_) ∧ RowAt W g7 REf (rfL Ss s.head s.at_)) (by kernel_rfl) ⟨HZc.out, HYc.out⟩ (fun hHeld => ?_)
                generalize wr.drew = wc at hHeld HBc HZc HYc HOc HTc ⊢
                refine wpAnyH_take (i := 0) (oi := ⟨some 66, .move (.tmp 8), _, _, _, _⟩) (v := (.int .i64 0)) rfl (by kernel_rfl) (by kernel_rfl) (by kernel_rfl) (fun _ _ _ h => h) (Or.inl ⟨by rfl, fun W hW => by go_simp⟩) (by assumption) ?_
                simp only [Act.put, List.setIfInBounds_toArray, List.set_cons_zero, List.set_cons_succ]
                refine wpAnyH_take (i := 1) (oi := ⟨some 67, .binOp .eql 29 (.tmp 66) (.const (.int .i64 0)) 29, _, _, _, _⟩) (v := (.bool true)) rfl (by kernel_rfl) (by kernel_rfl) (by kernel_rfl) (fun _ _ _ h => h) (Or.inl ⟨by rfl, fun W hW => by go_simp⟩) (by assumption) ?_
                simp only [Act.put, List.setIfInBounds_toArray, List.set_cons_zero, List.set_cons_succ]
                refine wpAnyH_take (i := 2) (oi := ⟨some 68, .move (.tmp 67), _, _, _, _⟩) (v := (.bool true)) rfl (by kernel_rfl) (by kernel_rfl) (by kernel_rfl) (fun _ _ _ h => h) (Or.inl ⟨by rfl, fun W hW => by go_simp⟩) (by assumption) ?_
                simp only [Act.put, List.setIfInBounds_toArray, List.set_cons_zero, List.set_cons_succ]
                refine wpAnyH_take (i := 3) (oi := ⟨some 69, .load 34 (.tmp 5), _, _, _, _⟩) (v := (.agg (rfC S4 s.head s.at_))) rfl (by kernel_rfl) (by kernel_rfl) (by kernel_rfl) (fun _ _ _ h => h) (Or.inl ⟨by rfl, fun W hW => exec_loadRf _ rfl _ S4 s.head s.at_ HO.out.at_ rfl hW.1⟩) (by assumption) ?_
                simp only [Act.put, List.setIfInBounds_toArray, List.set_cons_zero, List.set_cons_succ]
                refine wpAnyH_ready (rs := [4]) (by kernel_rfl) (by simp) ?_
                refine AllReadyH.cons (o := ⟨some 70, .call { callee := .value (.func 18), args := #[(.tmp 69)], argTypes := #[34] }, _, _, _, _⟩) rfl (fun K hK => ?_) AllReadyH.nil
                go_simp
                refine (right_any S4 s _ HOc.out.in_ HLS.out (HTB.out _ HBc.out) true ⟨fun _ => HRS.out, fun _ => rfl⟩).mono ?_
                rintro e wd ⟨rfl, hb⟩
                have HBd := Lib.hid (HBc.out.trans (hb.mono HBc.out.size))
                have HZd := Lib.hid (HZc.out.below hb)
                have HYd := Lib.hid (HYc.out.below hb)
                have HOd := Lib.hid (HOc.out.below hb)
                have HTd := Lib.hid (HTc.out.below hb)
                clear hb
                refine hK.out _ _ ⟨HZd.out, HYd.out⟩ (fun hHeld => ?_)
                clear hK K
                refine wpAnyH_take (i := 5) (oi := ⟨some 71, .pick (.tmp 68) (.tmp 70) (.const (.bool false)), _, _, _, _⟩) (v := (.bool true)) rfl (by kernel_rfl) (by kernel_rfl) (by kernel_rfl) (fun _ _ _ h => h) (Or.inl ⟨by rfl, fun W hW => by go_simp⟩) (by assumption) ?_
                simp only [Act.put, List.setIfInBounds_toArray, List.set_cons_zero, List.set_cons_succ]
                refine wpAnyH_take (i := 6) (oi := ⟨some 72, .move (.tmp 71), _, _, _, _⟩) (v := (.bool true)) rfl (by kernel_rfl) (by kernel_rfl) (by kernel_rfl) (fun _ _ _ h => h) (Or.inl ⟨by rfl, fun W hW => by go_simp⟩) (by assumption) ?_
                simp only [Act.put, List.setIfInBounds_toArray, List.set_cons_zero, List.set_cons_succ]
                refine wpAnyH_take (i := 7) (oi := ⟨some 73, .move (.tmp 1), _, _, _, _⟩) (v := (.slice a n c)) rfl (by kernel_rfl) (by kernel_rfl) (by kernel_rfl) (fun _ _ _ h => h) (Or.inl ⟨by rfl, fun W hW => by go_simp⟩) (by assumption) ?_
                simp only [Act.put, List.setIfInBounds_toArray, List.set_cons_zero, List.set_cons_succ]
                refine wpAnyH_take (i := 8) (oi := ⟨some 74, .call { callee := .builtin .len, args := #[(.tmp 73)], argTypes := #[44] }, _, _, _, _⟩) (v := (.int .i64 (n : Nat))) rfl (by kernel_rfl) (by kernel_rfl) (by kernel_rfl) (fun _ _ _ h => h) (Or.inl ⟨by rfl, fun W hW => by go_simp⟩) (by assumption) ?_
                simp only [Act.put, List.setIfInBounds_toArray, List.set_cons_zero, List.set_cons_succ]
                refine wpAnyH_take (i := 9) (oi := ⟨some 75, .binOp .eql 3 (.tmp 74) (.const (.int .i64 0)) 3, _, _, _, _⟩) (v := (.bool true)) rfl (by kernel_rfl) (by kernel_rfl) (by kernel_rfl) (fun _ _ _ h => h) (Or.inl ⟨by rfl, fun W hW => by have h0 := HNZ.out; go_simp⟩) (by assumption) ?_
                simp only [Act.put, List.setIfInBounds_toArray, List.set_cons_zero, List.set_cons_succ]
                refine wpAnyH_take (i := 10) (oi := ⟨some 76, .move (.tmp 75), _, _, _, _⟩) (v := (.bool true)) rfl (by kernel_rfl) (by kernel_rfl) (by kernel_rfl) (fun _ _ _ h => h) (Or.inl ⟨by rfl, fun W hW => by go_simp⟩) (by assumption) ?_
                simp only [Act.put, List.setIfInBounds_toArray, List.set_cons_zero, List.set_cons_succ]
                refine wpAnyH_take (i := 11) (oi := ⟨some 77, .load 34 (.tmp 7), _, _, _, _⟩) (v := undef) rfl (by kernel_rfl) (by kernel_rfl) (by kernel_rfl) (fun _ _ _ h => h) (Or.inr ⟨by rfl, rfl⟩) (by assumption) ?_
                simp only [Act.put, List.setIfInBounds_toArray, List.set_cons_zero, List.set_cons_succ]
                refine wpAnyH_take (i := 12) (oi := ⟨some 78, .call { callee := .value (.func 17), args := #[(.tmp 77)], argTypes := #[34] }, _, _, _, _⟩) (v := undef) rfl (by kernel_rfl) (by kernel_rfl) (by kernel_rfl) (fun _ _ _ h => h) (Or.inr ⟨by rfl, rfl⟩) (by assumption) ?_
                simp only [Act.put, List.setIfInBounds_toArray, List.set_cons_zero, List.set_cons_succ]
                refine wpAnyH_take (i := 13) (oi := ⟨some 79, .load 34 (.tmp 5), _, _, _, _⟩) (v := undef) rfl (by kernel_rfl) (by kernel_rfl) (by kernel_rfl) (fun _ _ _ h => h) (Or.inr ⟨by rfl, rfl⟩) (by assumption) ?_
                simp only [Act.put, List.setIfInBounds_toArray, List.set_cons_zero, List.set_cons_succ]
                refine wpAnyH_take (i := 14) (oi := ⟨some 80, .call { callee := .value (.func 17), args := #[(.tmp 79)], argTypes := #[34] }, _, _, _, _⟩) (v := undef) rfl (by kernel_rfl) (by kernel_rfl) (by kernel_rfl) (fun _ _ _ h => h) (Or.inr ⟨by rfl, rfl⟩) (by assumption) ?_
                simp only [Act.put, List.setIfInBounds_toArray, List.set_cons_zero, List.set_cons_succ]
                refine wpAnyH_take (i := 15) (oi := ⟨some 81, .call { callee := .value (.func 16), args := #[(.tmp 78), (.tmp 80)], argTypes := #[27, 27] }, _, _, _, _⟩) (v := undef) rfl (by kernel_rfl) (by kernel_rfl) (by kernel_rfl) (fun _ _ _ h => h) (Or.inr ⟨by rfl, rfl⟩) (by assumption) ?_
                simp only [Act.put, List.setIfInBounds_toArray, List.set_cons_zero, List.set_cons_succ]
                refine wpAnyH_take (i := 16) (oi := ⟨some 82, .pick (.tmp 76) (.const (.bool true)) (.tmp 81), _, _, _, _⟩) (v := (.bool true)) rfl (by kernel_rfl) (by kernel_rfl) (by kernel_rfl) (fun _ _ _ h => h) (Or.inl ⟨by rfl, fun W hW => by go_simp⟩) (by assumption) ?_
                simp only [Act.put, List.setIfInBounds_toArray, List.set_cons_zero, List.set_cons_succ]
                refine wpAnyH_take (i := 17) (oi := ⟨some 83, .pick (.tmp 72) (.tmp 82) (.const (.bool false)), _, _, _, _⟩) (v := (.bool true)) rfl (by kernel_rfl) (by kernel_rfl) (by kernel_rfl) (fun _ _ _ h => h) (Or.inl ⟨by rfl, fun W hW => by go_simp⟩) (by assumption) ?_
                simp only [Act.put, List.setIfInBounds_toArray, List.set_cons_zero, List.set_cons_succ]
                refine wpAnyH_take (i := 18) (oi := ⟨some 84, .move (.tmp 83), _, _, _, _⟩) (v := (.bool true)) rfl (by kernel_rfl) (by kernel_rfl) (by kernel_rfl) (fun _ _ _ h => h) (Or.inl ⟨by rfl, fun W hW => by go_simp⟩) (by assumption) ?_
                simp only [Act.put, List.setIfInBounds_toArray, List.set_cons_zero, List.set_cons_succ]
                refine wpAnyH_ready (rs := [19]) (by kernel_rfl) (by simp) ?_
                refine AllReadyH.cons (o := ⟨some 85, .call { callee := .value (.func 14), args := #[], argTypes := #[] }, _, _, _, _⟩) rfl (fun K hK => ?_) AllReadyH.nil
                go_simp
                refine (HAW.out _ HBd.out).mono ?_
                rintro e wz ⟨rfl, hb⟩
                have HBz := Lib.hid (HBd.out.trans (hb.mono HBd.out.size))
                have HZz := Lib.hid (HZd.out.below hb)
                have HYz := Lib.hid (HYd.out.below hb)
                have HOz := Lib.hid (HOd.out.below hb)
                have HTz := Lib.hid (HTd.out.below hb)
                clear hb
                refine hK.out _ _ ⟨HZz.out, HYz.out⟩ (fun hHeld => ?_)
                clear hK K
                refine wpAnyH_take (i := 20) (oi := ⟨some 86, .pick (.tmp 84) (.tmp 85) (.const (.bool false)), _, _, _, _⟩) (v := (.bool true)) rfl (by kernel_rfl) (by kernel_rfl) (by kernel_rfl) (fun _ _ _ h => h) (Or.inl ⟨by rfl, fun W hW => by go_simp⟩) (by assumption) ?_
                simp only [Act.put, List.setIfInBounds_toArray, List.set_cons_zero, List.set_cons_succ]
                refine wpAnyH_take (i := 21) (oi := ⟨some 4, .assign (.tmp 86), _, _, _, _⟩) (v := (.bool true)) rfl (by kernel_rfl) (by kernel_rfl) (by kernel_rfl) (fun _ _ _ h => h) (Or.inl ⟨by rfl, fun W hW => by go_simp⟩) (by assumption) ?_
                simp only [Act.put, List.setIfInBounds_toArray, List.set_cons_zero, List.set_cons_succ]
                refine wpAnyH_done (by kernel_rfl) ?_ _
                go_wp2_with fail
                go_ret
                exact ⟨rfl, HBz.out⟩
              · have hnz : ¬ (n : Int) = 0 := by omega
                have HNZ := Lib.hid hnz
                have HNZ2 := Lib.hid h0
                clear h0 hnz
                have HBc : Hid (Below w.heap.size w wr.drew) := Lib.hid HB.out.drew
                have HZc : Hid (RowAt wr.drew g5 REf (rfL S4 s.head s.at_)) := Lib.hid HZ.out
                have HYc : Hid (RowAt wr.drew g7 REf (rfL Ss s.head s.at_)) := Lib.hid HY.out
                have HOc := Lib.hid (HO.out.below (Below.refl wr.heap.size wr).drew)
                have HTc := Lib.hid (HT.out.below (Below.refl wr.heap.size wr).drew)
                refine wp_region_held_drew (S := fun W => RowAt W g5 REf (rfL S4 s.head s.at_) ∧ RowAt W g7 REf (rfL Ss s.head s.at_)) (by kernel_rfl) ⟨HZc.out, HYc.out⟩ (fun hHeld => ?_)
                generalize wr.drew = wc at hHeld HBc HZc HYc HOc HTc ⊢
                refine wpAnyH_take (i := 0) (oi := ⟨some 66, .move (.tmp 8), _, _, _, _⟩) (v := (.int .i64 0)) rfl (by kernel_rfl) (by kernel_rfl) (by kernel_rfl) (fun _ _ _ h => h) (Or.inl ⟨by rfl, fun W hW => by go_simp⟩) (by assumption) ?_
                simp only [Act.put, List.setIfInBounds_toArray, List.set_cons_zero, List.set_cons_succ]
                refine wpAnyH_take (i := 1) (oi := ⟨some 67, .binOp .eql 29 (.tmp 66) (.const (.int .i64 0)) 29, _, _, _, _⟩) (v := (.bool true)) rfl (by kernel_rfl) (by kernel_rfl) (by kernel_rfl) (fun _ _ _ h => h) (Or.inl ⟨by rfl, fun W hW => by go_simp⟩) (by assumption) ?_
                simp only [Act.put, List.setIfInBounds_toArray, List.set_cons_zero, List.set_cons_succ]
                refine wpAnyH_take (i := 2) (oi := ⟨some 68, .move (.tmp 67), _, _, _, _⟩) (v := (.bool true)) rfl (by kernel_rfl) (by kernel_rfl) (by kernel_rfl) (fun _ _ _ h => h) (Or.inl ⟨by rfl, fun W hW => by go_simp⟩) (by assumption) ?_
                simp only [Act.put, List.setIfInBounds_toArray, List.set_cons_zero, List.set_cons_succ]
                refine wpAnyH_take (i := 3) (oi := ⟨some 69, .load 34 (.tmp 5), _, _, _, _⟩) (v := (.agg (rfC S4 s.head s.at_))) rfl (by kernel_rfl) (by kernel_rfl) (by kernel_rfl) (fun _ _ _ h => h) (Or.inl ⟨by rfl, fun W hW => exec_loadRf _ rfl _ S4 s.head s.at_ HO.out.at_ rfl hW.1⟩) (by assumption) ?_
                simp only [Act.put, List.setIfInBounds_toArray, List.set_cons_zero, List.set_cons_succ]
                refine wpAnyH_ready (rs := [4]) (by kernel_rfl) (by simp) ?_
                refine AllReadyH.cons (o := ⟨some 70, .call { callee := .value (.func 18), args := #[(.tmp 69)], argTypes := #[34] }, _, _, _, _⟩) rfl (fun K hK => ?_) AllReadyH.nil
                go_simp
                refine (right_any S4 s _ HOc.out.in_ HLS.out (HTB.out _ HBc.out) true ⟨fun _ => HRS.out, fun _ => rfl⟩).mono ?_
                rintro e wd ⟨rfl, hb⟩
                have HBd := Lib.hid (HBc.out.trans (hb.mono HBc.out.size))
                have HZd := Lib.hid (HZc.out.below hb)
                have HYd := Lib.hid (HYc.out.below hb)
                have HOd := Lib.hid (HOc.out.below hb)
                have HTd := Lib.hid (HTc.out.below hb)
                clear hb
                refine hK.out _ _ ⟨HZd.out, HYd.out⟩ (fun hHeld => ?_)
                clear hK K
                refine wpAnyH_take (i := 5) (oi := ⟨some 71, .pick (.tmp 68) (.tmp 70) (.const (.bool false)), _, _, _, _⟩) (v := (.bool true)) rfl (by kernel_rfl) (by kernel_rfl) (by kernel_rfl) (fun _ _ _ h => h) (Or.inl ⟨by rfl, fun W hW => by go_simp⟩) (by assumption) ?_
                simp only [Act.put, List.setIfInBounds_toArray, List.set_cons_zero, List.set_cons_succ]
                refine wpAnyH_take (i := 6) (oi := ⟨some 72, .move (.tmp 71), _, _, _, _⟩) (v := (.bool true)) rfl (by kernel_rfl) (by kernel_rfl) (by kernel_rfl) (fun _ _ _ h => h) (Or.inl ⟨by rfl, fun W hW => by go_simp⟩) (by assumption) ?_
                simp only [Act.put, List.setIfInBounds_toArray, List.set_cons_zero, List.set_cons_succ]
                refine wpAnyH_take (i := 7) (oi := ⟨some 73, .move (.tmp 1), _, _, _, _⟩) (v := (.slice a n c)) rfl (by kernel_rfl) (by kernel_rfl) (by kernel_rfl) (fun _ _ _ h => h) (Or.inl ⟨by rfl, fun W hW => by go_simp⟩) (by assumption) ?_
                simp only [Act.put, List.setIfInBounds_toArray, List.set_cons_zero, List.set_cons_succ]
                refine wpAnyH_take (i := 8) (oi := ⟨some 74, .call { callee := .builtin .len, args := #[(.tmp 73)], argTypes := #[44] }, _, _, _, _⟩) (v := (.int .i64 (n : Nat))) rfl (by kernel_rfl) (by kernel_rfl) (by kernel_rfl) (fun _ _ _ h => h) (Or.inl ⟨by rfl, fun W hW => by go_simp⟩) (by assumption) ?_
                simp only [Act.put, List.setIfInBounds_toArray, List.set_cons_zero, List.set_cons_succ]
                refine wpAnyH_take (i := 9) (oi := ⟨some 75, .binOp .eql 3 (.tmp 74) (.const (.int .i64 0)) 3, _, _, _, _⟩) (v := (.bool false)) rfl (by kernel_rfl) (by kernel_rfl) (by kernel_rfl) (fun _ _ _ h => h) (Or.inl ⟨by rfl, fun W hW => by have h0 := HNZ.out; have h1 := HNZ2.out; go_simp⟩) (by assumption) ?_
                simp only [Act.put, List.setIfInBounds_toArray, List.set_cons_zero, List.set_cons_succ]
                refine wpAnyH_take (i := 10) (oi := ⟨some 76, .move (.tmp 75), _, _, _, _⟩) (v := (.bool false)) rfl (by kernel_rfl) (by kernel_rfl) (by kernel_rfl) (fun _ _ _ h => h) (Or.inl ⟨by rfl, fun W hW => by go_simp⟩) (by assumption) ?_
                simp only [Act.put, List.setIfInBounds_toArray, List.set_cons_zero, List.set_cons_succ]
                refine wpAnyH_take (i := 11) (oi := ⟨some 77, .load 34 (.tmp 7), _, _, _, _⟩) (v := (.agg (rfC Ss s.head s.at_))) rfl (by kernel_rfl) (by kernel_rfl) (by kernel_rfl) (fun _ _ _ h => h) (Or.inl ⟨by rfl, fun W hW => exec_loadRf _ rfl _ Ss s.head s.at_ HT.out.at_ rfl hW.2⟩) (by assumption) ?_
                simp only [Act.put, List.setIfInBounds_toArray, List.set_cons_zero, List.set_cons_succ]
                refine wpAnyH_take (i := 13) (oi := ⟨some 79, .load 34 (.tmp 5), _, _, _, _⟩) (v := (.agg (rfC S4 s.head s.at_))) rfl (by kernel_rfl) (by kernel_rfl) (by kernel_rfl) (fun _ _ _ h => h) (Or.inl ⟨by rfl, fun W hW => exec_loadRf _ rfl _ S4 s.head s.at_ HO.out.at_ rfl hW.1⟩) (by assumption) ?_
                simp only [Act.put, List.setIfInBounds_toArray, List.set_cons_zero, List.set_cons_succ]
                refine wpAnyH_ready (rs := [12]) (by kernel_rfl) (by simp) ?_
                refine AllReadyH.cons (o := ⟨some 78, .call { callee := .value (.func 17), args := #[(.tmp 77)], argTypes := #[34] }, _, _, _, _⟩) rfl (fun K hK => ?_) AllReadyH.nil
                go_simp
                refine (Of.of_any Ss s _ HTd.out.in_ (HTd.out.few HRS.out)).mono ?_
                rintro e we ⟨Se, rfl, ho, hb⟩
                have HBe := Lib.hid (HBd.out.trans (hb.mono HBd.out.size))
                have HZe := Lib.hid (HZd.out.below hb)
                have HYe := Lib.hid (HYd.out.below hb)
                have HOe := Lib.hid (HOd.out.below hb)
                have HTe := Lib.hid (HTd.out.below hb)
                have HPe := Lib.hid ho
                clear hb
                refine hK.out _ _ ⟨HZe.out, HYe.out⟩ (fun hHeld => ?_)
                clear hK K
                refine wpAnyH_ready (rs := [14]) (by kernel_rfl) (by simp) ?_
                refine AllReadyH.cons (o := ⟨some 80, .call { callee := .value (.func 17), args := #[(.tmp 79)], argTypes := #[34] }, _, _, _, _⟩) rfl (fun K hK => ?_) AllReadyH.nil
                go_simp
                refine (Of.of_any S4 s _ HOe.out.in_ (HOe.out.few HRS.out)).mono ?_
                rintro e wf ⟨Sf, rfl, ho, hb⟩
                have HBf := Lib.hid (HBe.out.trans (hb.mono HBe.out.size))
                have HZf := Lib.hid (HZe.out.below hb)
                have HYf := Lib.hid (HYe.out.below hb)
                have HOf := Lib.hid (HOe.out.below hb)
                have HTf := Lib.hid (HTe.out.below hb)
                have HPf := Lib.hid ho
                have HPe2 := Lib.hid (Of.below HPe.out hb)
                clear hb
                refine hK.out _ _ ⟨HZf.out, HYf.out⟩ (fun hHeld => ?_)
                clear hK K
                refine wpAnyH_ready (rs := [15]) (by kernel_rfl) (by simp) ?_
                refine AllReadyH.cons (o := ⟨some 81, .call { callee := .value (.func 16), args := #[(.tmp 78), (.tmp 80)], argTypes := #[27, 27] }, _, _, _, _⟩) rfl (fun K hK => ?_) AllReadyH.nil
                go_simp
                refine (sameTwo Se Sf s _ HPe2.out HPf.out HRS.out).mono ?_
                rintro e wg ⟨rfl, hb⟩
                have HBg := Lib.hid (HBf.out.trans (hb.mono HBf.out.size))
                have HZg := Lib.hid (HZf.out.below hb)
                have HYg := Lib.hid (HYf.out.below hb)
                have HOg := Lib.hid (HOf.out.below hb)
                have HTg := Lib.hid (HTf.out.below hb)
                clear hb
                refine hK.out _ _ ⟨HZg.out, HYg.out⟩ (fun hHeld => ?_)
                clear hK K
                refine wpAnyH_take (i := 16) (oi := ⟨some 82, .pick (.tmp 76) (.const (.bool true)) (.tmp 81), _, _, _, _⟩) (v := (.bool true)) rfl (by kernel_rfl) (by kernel_rfl) (by kernel_rfl) (fun _ _ _ h => h) (Or.inl ⟨by rfl, fun W hW => by go_simp⟩) (by assumption) ?_
                simp only [Act.put, List.setIfInBounds_toArray, List.set_cons_zero, List.set_cons_succ]
                refine wpAnyH_take (i := 17) (oi := ⟨some 83, .pick (.tmp 72) (.tmp 82) (.const (.bool false)), _, _, _, _⟩) (v := (.bool true)) rfl (by kernel_rfl) (by kernel_rfl) (by kernel_rfl) (fun _ _ _ h => h) (Or.inl ⟨by rfl, fun W hW => by go_simp⟩) (by assumption) ?_
                simp only [Act.put, List.setIfInBounds_toArray, List.set_cons_zero, List.set_cons_succ]
                refine wpAnyH_take (i := 18) (oi := ⟨some 84, .move (.tmp 83), _, _, _, _⟩) (v := (.bool true)) rfl (by kernel_rfl) (by kernel_rfl) (by kernel_rfl) (fun _ _ _ h => h) (Or.inl ⟨by rfl, fun W hW => by go_simp⟩) (by assumption) ?_
                simp only [Act.put, List.setIfInBounds_toArray, List.set_cons_zero, List.set_cons_succ]
                refine wpAnyH_ready (rs := [19]) (by kernel_rfl) (by simp) ?_
                refine AllReadyH.cons (o := ⟨some 85, .call { callee := .value (.func 14), args := #[], argTypes := #[] }, _, _, _, _⟩) rfl (fun K hK => ?_) AllReadyH.nil
                go_simp
                refine (HAW.out _ HBg.out).mono ?_
                rintro e wz ⟨rfl, hb⟩
                have HBz := Lib.hid (HBg.out.trans (hb.mono HBg.out.size))
                have HZz := Lib.hid (HZg.out.below hb)
                have HYz := Lib.hid (HYg.out.below hb)
                have HOz := Lib.hid (HOg.out.below hb)
                have HTz := Lib.hid (HTg.out.below hb)
                clear hb
                refine hK.out _ _ ⟨HZz.out, HYz.out⟩ (fun hHeld => ?_)
                clear hK K
                refine wpAnyH_take (i := 20) (oi := ⟨some 86, .pick (.tmp 84) (.tmp 85) (.const (.bool false)), _, _, _, _⟩) (v := (.bool true)) rfl (by kernel_rfl) (by kernel_rfl) (by kernel_rfl) (fun _ _ _ h => h) (Or.inl ⟨by rfl, fun W hW => by go_simp⟩) (by assumption) ?_
                simp only [Act.put, List.setIfInBounds_toArray, List.set_cons_zero, List.set_cons_succ]
                refine wpAnyH_take (i := 21) (oi := ⟨some 4, .assign (.tmp 86), _, _, _, _⟩) (v := (.bool true)) rfl (by kernel_rfl) (by kernel_rfl) (by kernel_rfl) (fun _ _ _ h => h) (Or.inl ⟨by rfl, fun W hW => by go_simp⟩) (by assumption) ?_
                simp only [Act.put, List.setIfInBounds_toArray, List.set_cons_zero, List.set_cons_succ]
                refine wpAnyH_done (by kernel_rfl) ?_ _
                go_wp2_with fail
                go_ret
                exact ⟨rfl, HBz.out⟩
            · have hz : Z.2 = 1 := by rw [← hgo]; unfold resL; rw [if_neg hs]
              have hi00 : i = 0 := (HW.out.rt rfl).resolve_right hs
              have hnz : (n : Int) = 0 := by omega
              rw [hz]
              clear hz hgo hs hg
              go_wp2_with (go_at_call 14; go_must (refine (HAW.out _ HB.out).mono ?_); rintro e we ⟨rfl, hbe⟩)
              go_ret
              exact ⟨rfl, HB.out.trans (hbe.mono HB.out.size)⟩
        · have hz := HW.out.no hf
          have hfI : ¬ ((f : Nat) : Int) = 0 := fun h => hf (Int.natCast_eq_zero.1 h)
          have hz2 : Z.2 = f := by rw [hz]
          have HZN : Hid (Z.1 = noRefs) := Lib.hid (by rw [hz])
          have HFE : Hid (RfFew S4) := Lib.hid (few_no HO.out HZN.out)
          rw [hz2]
          clear hz hz2 hg
          by_cases hi : (i : Int) < (n : Int)
          · go_wp2_with (first
              | ((with_reducible show wpList _ _ _ (⟨some 53, _, _, _, _, _⟩ :: _) _ _); go_must (refine wl_ex rfl (exec_loadRf _ rfl _ S4 Z.1.head Z.1.at_ HO.out.at_ rfl HZ.out) ?_))
              | (go_at_call 17; go_must (refine (Of.of_any S4 Z.1 _ HO.out.in_ HFE.out).mono ?_); rintro e wo ⟨So, rfl, ho, hb⟩; have HPo := Lib.hid ho; have HBo := Lib.hid (HB.out.trans (hb.mono HB.out.size)); clear ho hb)
              | ((with_reducible show wpList _ _ _ (⟨some 55, _, _, _, _, _⟩ :: _) _ _); go_must (refine wl_ex rfl (exec_zrr rfl) ?_))
              | (go_at_call 16; go_must (refine (sameNo _ _ _ HPo.out HZN.out).mono ?_); rintro e wp ⟨rfl, hb⟩; have HBp := Lib.hid (HBo.out.trans (hb.mono HBo.out.size)); clear hb))
            go_ret
            exact ⟨rfl, HBp.out⟩
          · go_wp2_with (first
              | ((with_reducible show wpList _ _ _ (⟨some 53, _, _, _, _, _⟩ :: _) _ _); go_must (refine wl_ex rfl (exec_loadRf _ rfl _ S4 Z.1.head Z.1.at_ HO.out.at_ rfl HZ.out) ?_))
              | (go_at_call 17; go_must (refine (Of.of_any S4 Z.1 _ HO.out.in_ HFE.out).mono ?_); rintro e wo ⟨So, rfl, ho, hb⟩; have HPo := Lib.hid ho; have HBo := Lib.hid (HB.out.trans (hb.mono HB.out.size)); clear ho hb)
              | ((with_reducible show wpList _ _ _ (⟨some 55, _, _, _, _, _⟩ :: _) _ _); go_must (refine wl_ex rfl (exec_zrr rfl) ?_))
              | (go_at_call 16; go_must (refine (sameNo _ _ _ HPo.out HZN.out).mono ?_); rintro e wp ⟨rfl, hb⟩; have HBp := Lib.hid (HBo.out.trans (hb.mono HBo.out.size)); clear hb))
            go_ret
            exact ⟨rfl, HBp.out⟩
#print axioms refsWhole_any
end Go.Proofs.YtejooogfnnidcaaDoor
