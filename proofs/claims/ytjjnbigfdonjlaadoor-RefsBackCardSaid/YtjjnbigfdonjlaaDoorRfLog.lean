/-
  The walks of rightLog and Right.
-/
import Derived.Test.YtjjnbigfdonjlaaDoorRfNames
import Derived.Test.YtjjnbigfdonjlaaDoorGrp8
namespace Go.Proofs.YtjjnbigfdonjlaaDoor
open Go.RowKit

/-- May an entry be? -/
def entF (e : EntV) : Bool := decide (1 ≤ e.upd.kind) && decide (e.upd.kind ≤ 3) && decide (e.upd.name.length ≤ 32) && noteF e.note
def LogOk (L : List EntV) : Prop := L.length ≤ 64 ∧ ∀ e ∈ L, entF e = true
theorem size67 {X : EntV} (h : UpOk X.upd) : (Tryd.prog.info? EEf).map (·.size) = some (enL X).length := by rw [enL_len h]; kernel_rfl
theorem exec_loadEn {w : World} {o : Oper} {a : Act} (x : Operand) (ho : o.op = .load EEf x) (b off : Nat) (X : EntV) (hX : UpOk X.upd) (hx : a.eval x = .pointer (some ⟨b, off, none⟩)) (hc : w.rangeAt b off (enL X)) :
    (execOp a.eval o).run Tryd.prog w = .ok (.value (.agg (enL X).toArray)) w := by
  have hr := run_loadVar_mid (P := Tryd.prog) w b off EEf (enL X) _ hc Tryd.underlying50 rfl (size67 hX)
  unfold execOp
  simp only [ho, hx, Instr.loadAt, Instr.sureAddr, Sem.run_bind, Sem.run_pure, Result.andThen_ok, hr]
theorem note_is (n : List UInt8) (q : Bool) (hq : noteF n = q) (hl : n.length ≤ 100000) (w : World) (hT : Tabs w) : Calls Tryd.prog 52 #[.string (strB n)] w fun e w' => e = .returned (.bool q) ∧ Below w.heap.size w w' := by
  have h := note_any (strB n) w (by rw [strB_size]; omega) hT
  rw [strB_list, hq] at h
  exact h
theorem en_note {w : World} {g : Nat} {E : TypeId} {X : EntV} (hX : UpOk X.upd) (h : RowAt w g E (enL X)) : w.cell? ⟨g, 66, none⟩ = some (.string (strB X.note)) := by
  refine h.cell 66 ?_
  unfold enL
  rw [List.getElem?_append_right (by rw [upL_len hX]; omega), upL_len hX]
  rfl
theorem ent_bad {L : List EntV} {X : EntV} {q : Bool} (hF : ¬ LogOk L → q = false) (hm : X ∈ L) (h : ¬ entF X = true) : q = false := hF (fun h2 => h (h2.2 X hm))

set_option maxRecDepth 100000 in
set_option maxHeartbeats 2000000 in
theorem log_any (a : Option Addr) (n c : Nat) (L : List EntV) (w : World) (h : AtG enK w a n c L) (hs : ∀ e ∈ L, e.upd.name.length ≤ 100000 ∧ e.note.length ≤ 100000) (hT : Tabs w) (q : Bool) (hq : q = true ↔ LogOk L) :
    Calls Tryd.prog 29 #[.slice a n c] w fun e w' => e = .returned (.bool q) ∧ Below w.heap.size w w' := by
  have HLN := Lib.hid h.1
  have HN := Lib.hid h
  have HQ := Lib.hid hq
  have HT := Lib.hid hT
  have HS := Lib.hid hs
  have HF := Lib.hid (show ¬ LogOk L → q = false from fun h => by
    cases q
    · rfl
    · exact absurd (HQ.out.1 rfl) h)
  have hnM : (n : Int) ≤ 9223372036854775807 := by have := h.2.1; have := h.2.2.1; omega
  clear hq hs hT
  by_cases h64 : (64 : Int) < (n : Int)
  · have d64 : decide (64 < n) = true := decide_eq_true (by omega)
    have HQ2 := Lib.hid (HF.out (fun h2 => by have := h2.1; have := HLN.out; omega))
    clear h
    go_enter Tryd.func29, Tryd.ntmps29
    go_wp2
    go_ret
    exact ⟨boolR HQ2.out.symm, Below.refl _ _⟩
  have hnI : (n : Int) ≤ 64 := by omega
  have HNI := Lib.hid hnI
  have d64 : decide (64 < n) = false := decide_eq_false (by omega)
  clear h h64
  go_enter Tryd.func29, Tryd.ntmps29
  go_wp2
  go_loopg [10] n (fun g v10 W => ∃ i : Nat, v10 = .int .i64 i ∧ g + i = n ∧ Hid (Below w.heap.size w W) ∧ Hid (∀ j, j < i → entF (gd L j) = true))
  case atStart => exact ⟨0, rfl, rfl, Lib.hid (Below.refl _ _), Lib.hid (fun j hj => absurd hj (Nat.not_lt_zero _))⟩
  case round =>
    obtain ⟨i, rfl, hg, HB, HOK⟩ := hrel
    have HG := Lib.hid hg
    have hi0 : (0 : Int) ≤ (i : Int) := by omega
    have hiI : (i : Int) ≤ (n : Int) := by omega
    by_cases hi : (i : Int) < (n : Int)
    · have hin : i < n := by omega
      have HI := Lib.hid hin
      obtain ⟨b, o, rfl⟩ := HN.out.some_ (by omega)
      obtain ⟨X, hX⟩ : ∃ X, X = gd L i := ⟨_, rfl⟩
      have HXO : Hid (UpOk X.upd) := Lib.hid (hX ▸ HN.out.ok hin)
      have HXE := Lib.hid hX
      have HXM : Hid (X ∈ L) := Lib.hid (by rw [hX]; exact gd_mem (by rw [HLN.out]; exact hin))
      have HXR : Hid (wr.rangeAt b (o + i * 67) (enL X)) := Lib.hid (hX ▸ (HN.out.below HB.out).at_ i hin)
      obtain ⟨ki, hki⟩ : ∃ ki : Int, (X.upd.kind : Int) = ki := ⟨_, rfl⟩
      have HKI := Lib.hid hki
      obtain ⟨p, hp⟩ : ∃ p, strB X.upd.name = p := ⟨_, rfl⟩
      have hps : p.size = X.upd.name.length := by rw [← hp, strB_size]
      have hpM : (p.size : Int) ≤ 100000 := by rw [hps]; have := (HS.out X HXM.out).1; omega
      have HPS := Lib.hid hps
      obtain ⟨t, ht⟩ : ∃ t, strB X.note = t := ⟨_, rfl⟩
      obtain ⟨m, hm⟩ : ∃ m, noteF X.note = m := ⟨_, rfl⟩
      have HNM := Lib.hid (fun W hT => ht ▸ note_is X.note m hm (HS.out X HXM.out).2 W hT)
      have HME := Lib.hid hm
      have HC0 := Lib.hid (fun W g (hh : RowAt W g EEf (enL X)) => (hki ▸ hh.cell 0 rfl : W.cell? ⟨g, 0, none⟩ = some (.int .u8 ki)))
      have HC1 := Lib.hid (fun W g (hh : RowAt W g EEf (enL X)) => (hp ▸ hh.cell 1 rfl : W.cell? ⟨g, 1, none⟩ = some (.string p)))
      have HC66 := Lib.hid (fun W g (hh : RowAt W g EEf (enL X)) => (ht ▸ en_note HXO.out hh : W.cell? ⟨g, 66, none⟩ = some (.string t)))
      clear hg hX hki hp hps ht hm
      by_cases k1 : ki < 1
      · have HZ := Lib.hid (ent_bad HF.out HXM.out (fun h => by unfold entF at h; simp only [Bool.and_eq_true, decide_eq_true_eq] at h; have := HKI.out; omega))
        go_wp2_with (first
          | ((with_reducible show wpList _ _ _ (⟨some 13, _, _, _, _, _⟩ :: _) _ _); go_must (refine wl_ex rfl (exec_loadEn _ rfl _ _ X HXO.out rfl HXR.out) ?_))
          | ((with_reducible show wpList _ _ _ (⟨_, Op.store _ (.tmp 4) _, _, _, _, _⟩ :: _) _ _); go_must (refine store_new (vs := enL X) (size67 HXO.out) (enL_one X) (by rw [enL_len HXO.out]; rfl) rfl _ _ rfl rfl rfl ?_); intro W4 hk4 hb4 hs4; have HBW := Lib.hid (HB.out.trans (hb4.mono HB.out.size)); have c0 := HC0.out _ _ hk4; have c1 := HC1.out _ _ hk4; have c66 := HC66.out _ _ hk4; generalize wr.heap.size = g4 at hk4 hs4 c0 c1 c66 ⊢; clear hk4 hb4 hs4))
        go_ret
        exact ⟨boolR HZ.out.symm, HBW.out⟩
      by_cases k2 : 3 < ki
      · have k1n : decide (ki < 1) = false := decide_eq_false k1
        have HZ := Lib.hid (ent_bad HF.out HXM.out (fun h => by unfold entF at h; simp only [Bool.and_eq_true, decide_eq_true_eq] at h; have := HKI.out; omega))
        go_wp2_with (first
          | ((with_reducible show wpList _ _ _ (⟨some 13, _, _, _, _, _⟩ :: _) _ _); go_must (refine wl_ex rfl (exec_loadEn _ rfl _ _ X HXO.out rfl HXR.out) ?_))
          | ((with_reducible show wpList _ _ _ (⟨_, Op.store _ (.tmp 4) _, _, _, _, _⟩ :: _) _ _); go_must (refine store_new (vs := enL X) (size67 HXO.out) (enL_one X) (by rw [enL_len HXO.out]; rfl) rfl _ _ rfl rfl rfl ?_); intro W4 hk4 hb4 hs4; have HBW := Lib.hid (HB.out.trans (hb4.mono HB.out.size)); have c0 := HC0.out _ _ hk4; have c1 := HC1.out _ _ hk4; have c66 := HC66.out _ _ hk4; generalize wr.heap.size = g4 at hk4 hs4 c0 c1 c66 ⊢; clear hk4 hb4 hs4))
        go_ret
        exact ⟨boolR HZ.out.symm, HBW.out⟩
      by_cases k3 : 32 < (p.size : Int)
      · have k3n : decide (32 < p.size) = true := decide_eq_true (by omega)
        have k1n : decide (ki < 1) = false := decide_eq_false k1
        have k2n : decide (3 < ki) = false := decide_eq_false k2
        have HZ := Lib.hid (ent_bad HF.out HXM.out (fun h => by unfold entF at h; simp only [Bool.and_eq_true, decide_eq_true_eq] at h; have := HPS.out; omega))
        go_wp2_with (first
          | ((with_reducible show wpList _ _ _ (⟨some 13, _, _, _, _, _⟩ :: _) _ _); go_must (refine wl_ex rfl (exec_loadEn _ rfl _ _ X HXO.out rfl HXR.out) ?_))
          | ((with_reducible show wpList _ _ _ (⟨_, Op.store _ (.tmp 4) _, _, _, _, _⟩ :: _) _ _); go_must (refine store_new (vs := enL X) (size67 HXO.out) (enL_one X) (by rw [enL_len HXO.out]; rfl) rfl _ _ rfl rfl rfl ?_); intro W4 hk4 hb4 hs4; have HBW := Lib.hid (HB.out.trans (hb4.mono HB.out.size)); have c0 := HC0.out _ _ hk4; have c1 := HC1.out _ _ hk4; have c66 := HC66.out _ _ hk4; generalize wr.heap.size = g4 at hk4 hs4 c0 c1 c66 ⊢; clear hk4 hb4 hs4))
        go_ret
        exact ⟨boolR HZ.out.symm, HBW.out⟩
      have k1n : decide (ki < 1) = false := decide_eq_false k1
      have k2n : decide (3 < ki) = false := decide_eq_false k2
      have k3n : decide (32 < p.size) = false := decide_eq_false (by omega)
      cases m
      · have HZ := Lib.hid (ent_bad HF.out HXM.out (fun h => by unfold entF at h; simp only [Bool.and_eq_true, decide_eq_true_eq] at h; have := h.2; rw [HME.out] at this; cases this))
        go_wp2_with (first
          | ((with_reducible show wpList _ _ _ (⟨some 13, _, _, _, _, _⟩ :: _) _ _); go_must (refine wl_ex rfl (exec_loadEn _ rfl _ _ X HXO.out rfl HXR.out) ?_))
          | ((with_reducible show wpList _ _ _ (⟨_, Op.store _ (.tmp 4) _, _, _, _, _⟩ :: _) _ _); go_must (refine store_new (vs := enL X) (size67 HXO.out) (enL_one X) (by rw [enL_len HXO.out]; rfl) rfl _ _ rfl rfl rfl ?_); intro W4 hk4 hb4 hs4; have HBW := Lib.hid (HB.out.trans (hb4.mono HB.out.size)); have c0 := HC0.out _ _ hk4; have c1 := HC1.out _ _ hk4; have c66 := HC66.out _ _ hk4; generalize wr.heap.size = g4 at hk4 hs4 c0 c1 c66 ⊢; clear hk4 hb4 hs4)
          | (go_at_call 52; go_must (refine (HNM.out _ (HT.out.below HBW.out)).mono ?_); rintro e w6 ⟨rfl, hb6⟩; have HX1 := Lib.hid (HBW.out.trans (hb6.mono HBW.out.size)); clear hb6))
        go_ret
        exact ⟨boolR HZ.out.symm, HX1.out⟩
      · have HK := Lib.hid (show entF X = true by
          unfold entF
          rw [HME.out, decide_eq_true (show 1 ≤ X.upd.kind by have := HKI.out; omega), decide_eq_true (show X.upd.kind ≤ 3 by have := HKI.out; omega), decide_eq_true (show X.upd.name.length ≤ 32 by have := HPS.out; omega)]
          rfl)
        clear k1 k2
        go_wp2_with (first
          | ((with_reducible show wpList _ _ _ (⟨some 13, _, _, _, _, _⟩ :: _) _ _); go_must (refine wl_ex rfl (exec_loadEn _ rfl _ _ X HXO.out rfl HXR.out) ?_))
          | ((with_reducible show wpList _ _ _ (⟨_, Op.store _ (.tmp 4) _, _, _, _, _⟩ :: _) _ _); go_must (refine store_new (vs := enL X) (size67 HXO.out) (enL_one X) (by rw [enL_len HXO.out]; rfl) rfl _ _ rfl rfl rfl ?_); intro W4 hk4 hb4 hs4; have HBW := Lib.hid (HB.out.trans (hb4.mono HB.out.size)); have c0 := HC0.out _ _ hk4; have c1 := HC1.out _ _ hk4; have c66 := HC66.out _ _ hk4; generalize wr.heap.size = g4 at hk4 hs4 c0 c1 c66 ⊢; clear hk4 hb4 hs4)
          | (go_at_call 52; go_must (refine (HNM.out _ (HT.out.below HBW.out)).mono ?_); rintro e w6 ⟨rfl, hb6⟩; have HX1 := Lib.hid (HBW.out.trans (hb6.mono HBW.out.size)); clear hb6))
        go_roundg (n - (i + 1))
        case measure => have := HG.out; have := HI.out; omega
        case rel => exact ⟨i + 1, by go_num, by have := HI.out; omega, HX1, Lib.hid (fun j hj => by
          rcases Nat.lt_or_ge j i with h1 | h1
          · exact HOK.out j h1
          · obtain rfl : j = i := by omega
            rw [← HXE.out]; exact HK.out)⟩
    · have hin : n = i := by omega
      have HZ : Hid (q = true) := Lib.hid (HQ.out.2 ⟨by have := HLN.out; have := HNI.out; omega, fun e he => by
        obtain ⟨j, hj, rfl⟩ := List.mem_iff_getElem.1 he
        have := HOK.out j (by have := HLN.out; omega)
        have e2 : gd L j = L[j] := by unfold gd; simp [hj]
        rwa [e2] at this⟩)
      clear hg
      go_wp2
      go_ret
      exact ⟨boolR HZ.out.symm, HB.out⟩
#print axioms log_any
/-- May refs be? -/
def RightV (r : RefsV) : Prop := RightN r.br ∧ RightN r.tg ∧ headF r.head r.at_ = true ∧ LogOk r.log
/-- What their texts weigh. -/
def RfLen (r : RefsV) : Prop := ∀ e ∈ r.log, e.upd.name.length ≤ 100000 ∧ e.note.length ≤ 100000
theorem size36 {S : RfS} {h a : List UInt8} (ha : a.length = 32) : (Tryd.prog.info? REf).map (·.size) = some (rfL S h a).length := by rw [rfL_len ha]; kernel_rfl
theorem exec_loadRf {w : World} {o : Oper} {a : Act} (x : Operand) (ho : o.op = .load REf x) (b : Nat) (S : RfS) (h m : List UInt8) (hm : m.length = 32) (hx : a.eval x = .pointer (some ⟨b, 0, none⟩)) (hc : RowAt w b REf (rfL S h m)) :
    (execOp a.eval o).run Tryd.prog w = .ok (.value (.agg (rfC S h m))) w := by
  have hr := run_loadVar_mid (P := Tryd.prog) w b 0 REf (rfL S h m) _ (fun i v hv => by rw [Nat.zero_add]; exact RowAt.cell hc i hv) Tryd.underlying35 rfl (size36 hm)
  unfold execOp
  simp only [ho, hx, Instr.loadAt, Instr.sureAddr, Sem.run_bind, Sem.run_pure, Result.andThen_ok, hr]
  rfl
section
variable {w : World} {g : Nat} {S : RfS} {h a : List UInt8} {E : TypeId}
theorem rf_br (H : RowAt w g E (rfL S h a)) : w.cell? ⟨g, 0, none⟩ = some (.slice S.ab S.nb S.cb) := H.cell 0 rfl
theorem rf_tg (H : RowAt w g E (rfL S h a)) : w.cell? ⟨g, 1, none⟩ = some (.slice S.ag S.ng S.cg) := H.cell 1 rfl
theorem rf_hd (H : RowAt w g E (rfL S h a)) : w.cell? ⟨g, 2, none⟩ = some (.string (strB h)) := H.cell 2 rfl
theorem rf_at (H : RowAt w g E (rfL S h a)) : w.rangeAt g 3 (a.map B) :=
  H.range (l := [.slice S.ab S.nb S.cb, .slice S.ag S.ng S.cg, .string (strB h)]) (m := a.map B) (r := [.slice S.al S.nl S.cl]) rfl
theorem rf_log (ha : a.length = 32) (H : RowAt w g E (rfL S h a)) : w.cell? ⟨g, 35, none⟩ = some (.slice S.al S.nl S.cl) := by
  refine H.cell 35 ?_
  unfold rfL
  rw [List.getElem?_append_right (by simp), List.getElem?_append_right (by simp [ha])]
  simp [ha]
end
theorem right_some (r : RefsV) : ∃ q1 q2 q3 q4 : Bool, (q1 = true ↔ RightN r.br) ∧ (q2 = true ↔ RightN r.tg) ∧ headF r.head r.at_ = q3 ∧ (q4 = true ↔ LogOk r.log) :=
  ⟨by classical exact decide (RightN r.br), by classical exact decide (RightN r.tg), _, by classical exact decide (LogOk r.log), by classical exact decide_eq_true_iff, by classical exact decide_eq_true_iff, rfl, by classical exact decide_eq_true_iff⟩

set_option maxRecDepth 100000 in
set_option maxHeartbeats 1000000 in
theorem right_any (S : RfS) (r : RefsV) (w : World) (h : RfIn w S r) (hs : RfLen r) (hT : Tabs w) (q : Bool) (hq : q = true ↔ RightV r) :
    Calls Tryd.prog 14 #[.agg (rfC S r.head r.at_)] w fun e w' => e = .returned (.bool q) ∧ Below w.heap.size w w' := by
  obtain ⟨q1, q2, q3, q4, h1, h2, h3, h4⟩ := right_some r
  have HA := Lib.hid h.at_
  have HR := Lib.hid (show RowAt (w.alloc (.cells (rfC S r.head r.at_) REf)) w.heap.size REf (rfL S r.head r.at_) from heap_alloc_new w _)
  have HB := Lib.hid ((Below.refl w.heap.size w).alloc (Nat.le_refl _) (.cells (rfC S r.head r.at_) REf))
  have N1 := Lib.hid (fun W (hW : Below w.heap.size w W) => names_any S.ab S.nb S.cb r.br W (h.br.below hW) q1 h1)
  have N2 := Lib.hid (fun W (hW : Below w.heap.size w W) => names_any S.ag S.ng S.cg r.tg W (h.tg.below hW) q2 h2)
  have N3 := Lib.hid (fun W => head_any r.head r.at_ h.at_ q3 h3 W)
  have N4 := Lib.hid (fun W (hW : Below w.heap.size w W) => log_any S.al S.nl S.cl r.log W (h.log.below hW) hs (hT.below hW) q4 h4)
  have HQ := Lib.hid (show q = (q1 && q2 && q3 && q4) by
    rw [Bool.eq_iff_iff]
    simp only [Bool.and_eq_true]
    rw [hq, h1, h2, h4]
    unfold RightV
    rw [h3]
    constructor
    · rintro ⟨a, b, c, d⟩; exact ⟨⟨⟨a, b⟩, c⟩, d⟩
    · rintro ⟨⟨⟨a, b⟩, c⟩, d⟩; exact ⟨a, b, c, d⟩)
  obtain ⟨p, hp⟩ : ∃ p, strB r.head = p := ⟨_, rfl⟩
  have HC0 := Lib.hid (fun W (hh : RowAt W w.heap.size REf (rfL S r.head r.at_)) => rf_br hh)
  have HC1 := Lib.hid (fun W (hh : RowAt W w.heap.size REf (rfL S r.head r.at_)) => rf_tg hh)
  have HC2 := Lib.hid (fun W (hh : RowAt W w.heap.size REf (rfL S r.head r.at_)) => (hp ▸ rf_hd hh : W.cell? ⟨w.heap.size, 2, none⟩ = some (.string p)))
  have HC35 := Lib.hid (fun W (hh : RowAt W w.heap.size REf (rfL S r.head r.at_)) => rf_log HA.out hh)
  rw [hp] at N3
  have c0 := HC0.out _ HR.out
  clear h hs hT hq h1 h2 h3 h4 hp
  cases q1
  · go_enter Tryd.func14, Tryd.ntmps14
    go_wp2_with (go_at_call 27; go_must (refine (N1.out _ HB.out).mono ?_); rintro e w2 ⟨rfl, hb2⟩)
    go_ret
    exact ⟨boolR (by rw [HQ.out]; rfl), HB.out.trans (hb2.mono HB.out.size)⟩
  cases q2
  · go_enter Tryd.func14, Tryd.ntmps14
    go_wp2_with (first
      | (go_at_call 27; (with_reducible refine (N1.out _ HB.out).mono ?_); rintro e w2 ⟨rfl, hb2⟩; have HB2 := Lib.hid (HB.out.trans (hb2.mono HB.out.size)); have HR2 := Lib.hid (HR.out.below hb2); have c1 := HC1.out _ HR2.out; clear hb2)
      | (go_at_call 27; (with_reducible refine (N2.out _ HB2.out).mono ?_); rintro e w3 ⟨rfl, hb3⟩))
    go_ret
    exact ⟨boolR (by rw [HQ.out]; rfl), HB2.out.trans (hb3.mono HB2.out.size)⟩
  cases q3
  · go_enter Tryd.func14, Tryd.ntmps14
    go_wp2_with (first
      | (go_at_call 27; (with_reducible refine (N1.out _ HB.out).mono ?_); rintro e w2 ⟨rfl, hb2⟩; have HB2 := Lib.hid (HB.out.trans (hb2.mono HB.out.size)); have HR2 := Lib.hid (HR.out.below hb2); have c1 := HC1.out _ HR2.out; clear hb2)
      | (go_at_call 27; (with_reducible refine (N2.out _ HB2.out).mono ?_); rintro e w3 ⟨rfl, hb3⟩; have HB3 := Lib.hid (HB2.out.trans (hb3.mono HB2.out.size)); have HR3 := Lib.hid (HR2.out.below hb3); have c2 := HC2.out _ HR3.out; clear hb3)
      | ((with_reducible show wpList _ _ _ (⟨some 15, _, _, _, _, _⟩ :: _) _ _); go_must (refine wl_load rfl _ rfl _ _ r.at_ HA.out rfl (rf_at HR3.out) ?_))
      | (go_at_call 28; go_must (refine (N3.out _).mono ?_); rintro e w4 ⟨rfl, hb4⟩))
    go_ret
    exact ⟨boolR (by rw [HQ.out]; rfl), HB3.out.trans (hb4.mono HB3.out.size)⟩
  · go_enter Tryd.func14, Tryd.ntmps14
    go_wp2_with (first
      | (go_at_call 27; (with_reducible refine (N1.out _ HB.out).mono ?_); rintro e w2 ⟨rfl, hb2⟩; have HB2 := Lib.hid (HB.out.trans (hb2.mono HB.out.size)); have HR2 := Lib.hid (HR.out.below hb2); have c1 := HC1.out _ HR2.out; clear hb2)
      | (go_at_call 27; (with_reducible refine (N2.out _ HB2.out).mono ?_); rintro e w3 ⟨rfl, hb3⟩; have HB3 := Lib.hid (HB2.out.trans (hb3.mono HB2.out.size)); have HR3 := Lib.hid (HR2.out.below hb3); have c2 := HC2.out _ HR3.out; clear hb3)
      | ((with_reducible show wpList _ _ _ (⟨some 15, _, _, _, _, _⟩ :: _) _ _); go_must (refine wl_load rfl _ rfl _ _ r.at_ HA.out rfl (rf_at HR3.out) ?_))
      | (go_at_call 28; go_must (refine (N3.out _).mono ?_); rintro e w4 ⟨rfl, hb4⟩; have HB4 := Lib.hid (HB3.out.trans (hb4.mono HB3.out.size)); have HR4 := Lib.hid (HR3.out.below hb4); have c35 := HC35.out _ HR4.out; clear hb4)
      | (go_at_call 29; go_must (refine (N4.out _ HB4.out).mono ?_); rintro e w5 ⟨rfl, hb5⟩))
    go_ret
    exact ⟨boolR (by rw [HQ.out]; rfl), HB4.out.trans (hb5.mono HB4.out.size)⟩
#print axioms right_any
end Go.Proofs.YtjjnbigfdonjlaaDoor
