/-
  The walk of Append's closure: a file that is not there yet.
-/
import Derived.Test.YtemphljkfpkgmaaDiskApp3
namespace Go.Proofs.Ytemphljkfpkgmaa
open Go.RowKit Go.Maps

def NewF (F : Nat → Prop) (fb nb x : Nat) (k : Nat) : Prop := F k ∨ k = fb ∨ k = nb ∨ k = x
def moreM (M : Mem) (x : Nat) : Mem := { M with bl := M.bl ++ [x], vs := M.vs ++ [.slice none 0 0] }
theorem getD_more {l : List Nat} {i x : Nat} (h : i < l.length) : (l ++ [x]).getD i 0 = l.getD i 0 := by simp [List.getD_eq_getElem?_getD, List.getElem?_append_left h]
theorem more_fin {F : Nat → Prop} {w : World} {db fb nb : Nat} {S : DS} {M : Mem} (h : DiskIn F w db S M) (hi : Inv S) {p : Value} (rf : RowAt w fb 68 [p]) (hf : ¬ F fb) (hnb : nb < w.heap.size) :
    Chg (fun k => F k ∨ k = fb) w ((w.alloc (.cells #[.slice none 0 0, .int .i64 0] 73)).setCell ⟨fb, 0, none⟩ (Pt w.heap.size)) ∧
    DiskIn (NewF F fb nb w.heap.size) ((w.alloc (.cells #[.slice none 0 0, .int .i64 0] 73)).setCell ⟨fb, 0, none⟩ (Pt w.heap.size)) db (moreS S) (moreM M w.heap.size) ∧
    (∀ x t cs, x ≠ fb → RowAt w x t cs → RowAt ((w.alloc (.cells #[.slice none 0 0, .int .i64 0] 73)).setCell ⟨fb, 0, none⟩ (Pt w.heap.size)) x t cs) ∧
    RowAt ((w.alloc (.cells #[.slice none 0 0, .int .i64 0] 73)).setCell ⟨fb, 0, none⟩ (Pt w.heap.size)) fb 68 [Pt w.heap.size] := by
  generalize hW : (w.alloc (.cells #[.slice none 0 0, .int .i64 0] 73)).setCell ⟨fb, 0, none⟩ (Pt w.heap.size) = W
  have kX : ∀ k, k < w.heap.size → k ≠ fb → W.heap[k]? = w.heap[k]? := fun k hk h1 => by
    rw [← hW, Below.heap_setCell _ _ _ _ h1, Below.heap_alloc _ _ _ hk]
  have sz : W.heap.size = w.heap.size + 1 := by rw [← hW]; simp [World.setCell]
  have hF : ∀ k, F k → W.heap[k]? = w.heap[k]? := fun k hk => kX k (h.lt k hk) (fun e => hf (e ▸ hk))
  have hold : ∀ k, F k → NewF F fb nb w.heap.size k := fun _ h => .inl h
  have hfl := rf.lt
  have hnew : RowAt W w.heap.size 73 (fileC (.slice none 0 0) 0) := by
    unfold RowAt
    rw [← hW, Below.heap_setCell _ _ _ _ (show w.heap.size ≠ fb by omega)]
    exact heap_alloc_new w _
  have hbl := h.files.bls
  refine ⟨⟨by rw [← hW]; rfl, by rw [← hW]; rfl, by rw [← hW]; rfl, by omega, fun k hk hX => kX k hk (fun e => hX (.inr e))⟩, ⟨?_, ?_, ?_, ?_, ?_, h.two, h.arm, h.armI, ⟨.inl h.inF.1, .inl h.inF.2.1, .inl h.inF.2.2⟩, fun k hk => ?_⟩, fun x t cs hx hr => hr.same (kX x hr.lt hx), ?_⟩
  · exact h.row.same (hF _ h.inF.1)
  · refine h.files.more hold h.lt (Nat.le_refl _) (.inr (.inr (.inr rfl))) hnew (fun k hk hb => kX k hk (fun e => ?_))
    subst e
    obtain ⟨cs, hc | hc⟩ := hb
    · exact ne_of_types hc rf (by decide) rfl
    · exact ne_of_types hc rf (by decide) rfl
  · exact (h.acts.same hold (fun r hr => hF r (h.acts.inF r hr)) (fun k hk _ => hF k hk)).ids (fun a ha => getD_more (by rw [hbl]; exact hi.aids a ha))
  · exact (h.now.same (hF _ h.inF.2.1)).ids (fun s k hk => getD_more (by rw [hbl]; exact hi.nids _ (look_mem hk)))
  · exact (h.kept.same (hF _ h.inF.2.2)).ids (fun s k hk => getD_more (by rw [hbl]; exact hi.kids _ (look_mem hk)))
  · rcases hk with hk | hk | hk | hk
    · have := h.lt k hk; omega
    · omega
    · omega
    · omega
  · rw [← hW]
    exact RowAt.set (w := w.alloc (.cells #[.slice none 0 0, .int .i64 0] 73)) (rf.same (Below.heap_alloc _ _ _ hfl)) 0 (Pt w.heap.size)
theorem app_end2 {F F2 : Nat → Prop} {w w2 w' : World} {fb nb db : Nat} {S S2 : DS} {M' : Mem} {s : Nm} {b : List UInt8} {k : Nat} (E : putS S s b = addF S2 k b) (h1 : Chg (fun k => F k ∨ k = fb ∨ k = nb) w w2) (h2 : (∀ k, F2 k → F k ∨ k = fb ∨ k = nb ∨ w.heap.size ≤ k) ∧ (∀ k, F k → F2 k))
    (h : Chg F2 w2 w' ∧ DiskIn (Plus F2 w2 w') w' db (addF S2 k b) M') (hu : M'.used = usedS (putS S s b)) : AppEnd F w fb nb db S s b w' := by
  unfold AppEnd
  rw [E] at hu ⊢
  refine ⟨_, _, ?_, fun j hk => ?_, fun j hk => .inl (h2.2 j hk), h.2, hu⟩
  · refine ⟨h.1.os.trans h1.os, h.1.tape.trans h1.tape, h.1.output.trans h1.output, Nat.le_trans h1.size h.1.size, fun j hj hX => ?_⟩
    rw [h.1.block j (Nat.lt_of_lt_of_le hj h1.size) (fun hF2 => ?_)]
    · exact h1.block j hj hX
    · rcases h2.1 j hF2 with e | e | e | e
      · exact hX (.inl e)
      · exact hX (.inr (.inl e))
      · exact hX (.inr (.inr e))
      · omega
  · rcases hk with hk | hk
    · exact h2.1 j hk
    · exact .inr (.inr (.inr (Nat.le_trans h1.size hk.1)))
theorem row_new {F : Nat → Prop} {w : World} {db x k : Nat} {S : DS} {M : Mem} (h : DiskIn F w db S M) (hk : k < S.files.length) (hb : M.bl.getD k 0 = x) (hv : M.vs.getD k undef = .slice none 0 0) (hf : S.files.getD k ([], 0) = ([], 0)) : RowAt w x 73 (fileC (.slice none 0 0) 0) := by
  have := h.files.row k hk
  rw [hb, hv, hf] at this
  exact this
theorem none_mid {F : Nat → Prop} {w w1 w2 : World} {fb nb db : Nat} {S : DS} {M : Mem} {a : DAct} {v : Value} {e : Ending} (m1 : Chg (fun k => F k ∨ k = fb) w w1) (hl1 : M.bl.length = S.files.length) (hl2 : M.vs.length = S.files.length)
    (ce : ChgEnd (NewF F fb nb w.heap.size) w1 db (moreS S) (moreM M w.heap.size) a v e w2) :
    e = .returned (.tuple #[]) ∧ ∃ F2 M2, Chg (fun k => F k ∨ k = fb ∨ k = nb) w w2 ∧ ((∀ k, F2 k → F k ∨ k = fb ∨ k = nb ∨ w.heap.size ≤ k) ∧ (∀ k, F k → F2 k)) ∧ (∀ x t cs, t ≠ 75 → t ≠ 50 → RowAt w1 x t cs → RowAt w2 x t cs) ∧
      DiskIn F2 w2 db (doneS (moreS S) a) M2 ∧ M2.used = M.used ∧ M2.bl.getD S.files.length 0 = w.heap.size ∧ M2.vs.getD S.files.length undef = .slice none 0 0 ∧ (doneS (moreS S) a).files.getD S.files.length ([], 0) = ([], 0) ∧ S.files.length < (doneS (moreS S) a).files.length := by
  obtain ⟨rfl, k2, t2, av, d2⟩ := ce
  refine ⟨rfl, _, _, ?_, ⟨fun k hk => ?_, fun k hk => .inl (.inl hk)⟩, t2, d2, rfl, ?_, ?_, ?_, ?_⟩
  · refine ⟨k2.os.trans m1.os, k2.tape.trans m1.tape, k2.output.trans m1.output, Nat.le_trans m1.size k2.size, fun j hj hX => ?_⟩
    rw [k2.block j (Nat.lt_of_lt_of_le hj m1.size) (fun hF => ?_), m1.block j hj (fun h => hX (h.elim .inl (fun h => .inr (.inl h))))]
    rcases hF with e | e | e | e
    · exact hX (.inl e)
    · exact hX (.inr (.inl e))
    · exact hX (.inr (.inr e))
    · omega
  · rcases hk with (e | e | e | e) | e
    · exact .inl e
    · exact .inr (.inl e)
    · exact .inr (.inr (.inl e))
    · exact .inr (.inr (.inr (by omega)))
    · exact .inr (.inr (.inr (Nat.le_trans m1.size e.1)))
  · show (M.bl ++ [w.heap.size]).getD S.files.length 0 = _
    rw [← hl1]; simp [List.getD_eq_getElem?_getD]
  · show (M.vs ++ [Value.slice none 0 0]).getD S.files.length undef = _
    rw [← hl2]; simp [List.getD_eq_getElem?_getD]
  · simp [doneS, moreS, List.getD_eq_getElem?_getD]
  · simp [doneS, moreS]
set_option maxRecDepth 100000 in
set_option maxHeartbeats 4000000 in
theorem appC_none {F : Nat → Prop} {w : World} {db : Nat} {S : DS} {M : Mem} (fb xb nb bb : Nat) (s : Nm) (b : List UInt8) (a : Option Addr) (n c : Nat) (h : DiskIn F w db S M) (hi : Inv S) (hk : look S.now s = none) (hs : mayN s = true) (hu : M.used = usedS S) (hq : usedS S + b.length ≤ S.quota) (hsz : S.kept.length + S.acts.length ≤ 1000000)
    (rf : RowAt w fb 68 [.pointer none]) (rx : RowAt w xb 24 [Pt db]) (rn : RowAt w nb 9 [.string (strB s)]) (rb : RowAt w bb 35 [.slice a n c]) (hf : ¬ F fb) (hB : ∀ W, Chg (fun k => F k ∨ k = fb ∨ k = nb) w W → Bytes W a n c b) :
    Calls Try.prog 31 #[Pt fb, Pt xb, Pt nb, Pt bb] w fun e w' => e = .returned (.tuple #[]) ∧ AppEnd F w fb nb db S s b w' := by
  obtain ⟨m1, m2, m3, m4⟩ := more_fin h hi rf hf rn.lt
  generalize hw1 : (w.alloc (.cells #[.slice none 0 0, .int .i64 0] 73)).setCell ⟨fb, 0, none⟩ (Pt w.heap.size) = w1 at m1 m2 m3 m4
  have hsne := may_ne hs
  have hbl : (moreM M w.heap.size).bl.getD S.files.length 0 = w.heap.size := by rw [← h.files.bls]; simp [moreM, List.getD_eq_getElem?_getD]
  have him : Inv (moreS S) := ⟨hi.good, hi.runs, fun e he => by have := hi.kids e he; simp [moreS]; omega, fun a ha => by have := hi.aids a ha; simp [moreS]; omega, fun x hx => by
    rcases List.mem_append.1 hx with hx | hx
    · exact hi.syn x hx
    · obtain rfl := List.mem_singleton.1 hx
      exact ⟨Nat.zero_le _, Nat.zero_le _⟩, hi.most⟩
  have rx1 := m3 xb _ _ (ne_of_types rx rf (by decide)) rx
  have rn1 := m3 nb _ _ (ne_of_types rn rf (by decide)) rn
  have rb1 := m3 bb _ _ (ne_of_types rb rf (by decide)) rb
  have CH := Lib.hid (change_put (newAct S s) fb nb m2 him hsz rfl hsne (may_le hs) (.inr (.inl rfl)) (.inr (.inr (.inl rfl))) (by rw [show (newAct S s).file = S.files.length from rfl, hbl]; exact m4) rn1)
  have E := Lib.hid (put_more hk b)
  have HU := Lib.hid (used_more hi hsne hk b)
  have M1 := Lib.hid m1
  have HB := Lib.hid hB
  have RF1 := Lib.hid m4
  have RX1 := Lib.hid rx1
  have RB1 := Lib.hid rb1
  have HL := Lib.hid (And.intro h.files.bls h.files.vss)
  have HM := Lib.hid hu
  have HQ := Lib.hid (show usedS S + b.length ≤ 1073741824 by have := hi.most; omega)
  have rfa : RowAt (w.alloc (.cells #[.slice none 0 0, .int .i64 0] 73)) fb 68 [.pointer none] := rf.same (Below.heap_alloc _ _ _ rf.lt)
  have c0 := rf.cell 0 rfl
  have c1 := rfa.cell 0 rfl
  have f1 := rfa.free 0
  have c2 := rx1.cell 0 rfl
  have c3 := rb1.cell 0 rfl
  have c4 := m4.cell 0 rfl
  clear rfa h hi hk hs hu hq hsz rf rx rn rb hf hB m1 m2 m3 m4 hsne hbl him rx1 rn1 rb1
  go_enter Try.func31, Try.ntmps31
  go_wp2_with (first
    | (go_at_call 32; (with_reducible refine CH.out.mono ?_); intro e w2 ce; obtain ⟨rfl, F2, M2, k1, k2, t2, d2, u2, b2, v2, fl2, lt2⟩ := none_mid M1.out HL.out.1 HL.out.2 ce; have RF := Lib.hid (t2 fb _ _ (by decide) (by decide) RF1.out); have RX := Lib.hid (t2 xb _ _ (by decide) (by decide) RX1.out); have RB := Lib.hid (t2 bb _ _ (by decide) (by decide) RB1.out); have K1 := Lib.hid k1; have K2 := Lib.hid k2; have D2 := Lib.hid d2; have U2 := Lib.hid u2; have B2 := Lib.hid b2; have V2 := Lib.hid v2; have L2 := Lib.hid fl2; have T2 := Lib.hid lt2; have e1 := RF.out.cell 0 rfl; have e2 := RX.out.cell 0 rfl; have e3 := RB.out.cell 0 rfl; have RR := Lib.hid (row_new d2 lt2 b2 v2 fl2); have e4 := RR.out.cell 0 rfl; have e5 := d2.facts.2.2.2.2.1; rw [u2, HM.out] at e5; have RD := Lib.hid d2.row; have HBB := Lib.hid (HB.out w2 k1); have HO := Lib.hid (Own.nil w2 0); clear ce k1 k2 t2 d2 u2 b2 v2 fl2 lt2))
  have KP := Lib.hid (fun (W : World) hg => app_keeps D2.out T2.out (W := W) hg)
  have FIN := Lib.hid (fun (a' : Option Addr) (r c' : Nat) (W w' : World) ho hg ht hw => add_fin D2.out T2.out (b := b) (a' := a') (r := r) (c' := c') (W := W) (w' := w') ho hg ht (usedS S + b.length) hw)
  rw [V2.out] at KP FIN
  rw [B2.out, L2.out] at FIN
  obtain ⟨r, hr⟩ : ∃ r, r = 0 + n := ⟨_, rfl⟩
  have HR := Lib.hid hr
  have hn1 := HBB.out.1
  have hq1 : (0 : Int) ≤ (usedS S : Int) := by omega
  have hq2 : ((usedS S : Nat) : Int) + (n : Int) ≤ 1073741824 := by have := HQ.out; omega
  have hq3 : (0 : Int) ≤ (n : Int) := by omega
  have H48 := Lib.hid (show ([] : List UInt8).length + n ≤ 140737488355328 by simp; omega)
  have HN := Lib.hid hn1
  have hw2 : IntKind.i64.wrap ((usedS S : Int) + (n : Int)) = (usedS S : Int) + (n : Int) := IntWalk.i64_in _ (by omega)
  clear hr hn1 hw1 c0 c1 f1 c2 c3 c4
  obtain ⟨x, hx⟩ : ∃ x, w.heap.size = x := ⟨_, rfl⟩
  rw [hx] at RR e1 e4 FIN RF
  clear hx
  have HUU := Lib.hid HU.out.symm
  generalize usedS S = u at *
  go_region_law ((refine step_app rfl _ _ rfl (.slice none 0 0) _ rfl HO.out a n c b rfl HBB.out H48.out r HR.out ?_); intro a' c' w4 ho2 hg2 ht2; have KK := Lib.hid (KP.out w4 (grown_drew hg2)); have d1 := (KK.out fb _ _ (by decide) RF.out).cell 0 rfl; have d4 := (KK.out x _ _ (by decide) RR.out).cell 0 rfl; have f4 := (KK.out x _ _ (by decide) RR.out).free 0; have FF := Lib.hid (fun w' hw => FIN.out a' r c' w4 w' ho2 (grown_drew hg2) (told_drew ht2) hw); have RD2 := Lib.hid (KK.out db _ _ (by decide) RD.out); have RX2 := Lib.hid (KK.out xb _ _ (by decide) RX.out); have RB2 := Lib.hid (KK.out bb _ _ (by decide) RB.out); have RR2 := Lib.hid (KK.out x _ _ (by decide) RR.out); clear ho2 hg2 ht2)
  all_goals
    obtain ⟨W3, hW3⟩ : ∃ W3, W3 = w4.setCell ⟨x, 0, none⟩ (.slice a' r c') := ⟨_, rfl⟩
    have g2 := (RX2.out.other (a := ⟨x, 0, none⟩) (ne_of_types RX2.out RR2.out (by decide)) (.slice a' r c')).cell 0 rfl
    have g3 := (RB2.out.other (a := ⟨x, 0, none⟩) (ne_of_types RB2.out RR2.out (by decide)) (.slice a' r c')).cell 0 rfl
    have RD3 := RD2.out.other (a := ⟨x, 0, none⟩) (ne_of_types RD2.out RR2.out (by decide)) (.slice a' r c')
    have g4 := RD3.cell 4 rfl
    have g5 := RD3.free 4
    rw [U2.out, HM.out] at g4
    rw [← hW3] at g2 g3 g4 g5 ⊢
    have HW3 := Lib.hid hW3
    clear hW3 RD3 d1 d4 f4 e2 e3 e4 e5
    go_wp2
    go_still_tail 9, (by kernel_rfl)
    change wpList _ _ _ _ _ W3.drew
    go_wp2
    have e : ((u + b.length : Nat) : Int) = (u : Int) + (n : Int) := by rw [HN.out]; exact Int.natCast_add u n
    have HW := HW3.out
    subst HW
    refine bodyPost_end (results_none rfl _ _ _) rfl ?_
    refine ⟨rfl, ?_⟩
    refine app_end2 E.out K1.out K2.out (FF.out _ ⟨?_, rfl, rfl, rfl⟩) HUU.out
    rw [e]
    rfl
#print axioms appC_none
end Go.Proofs.Ytemphljkfpkgmaa
