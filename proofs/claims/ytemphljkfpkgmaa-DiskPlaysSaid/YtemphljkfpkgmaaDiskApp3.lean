/-
  The walk of Append's closure: a file that is there.
-/
import Derived.Test.YtemphljkfpkgmaaDiskApp2
import Derived.IntWalk
namespace Go.Proofs.Ytemphljkfpkgmaa
open Go.RowKit Go.Maps

section
variable {F : Nat → Prop} {w W : World} {db : Nat} {S : DS} {M : Mem}
/-- What an append to a file's bytes keeps. -/
theorem app_keeps (h : DiskIn F w db S M) {k : Nat} (hk : k < S.files.length) (hg : w.grownBy W (M.vs.getD k undef).ownBlock) :
    (∀ x t cs, t ≠ 5 → RowAt w x t cs → RowAt W x t cs) := by
  intro x t cs ht hr
  refine hr.same (hg.block x hr.lt (fun e => ?_))
  obtain ⟨cur, hc⟩ := row_block (h.files.own k hk) e.symm
  exact ne_of_types hr hc ht rfl
end
theorem grown_drew {w W : World} {r : Option Nat} (h : w.drew.grownBy W r) : w.grownBy W r := ⟨h.os, h.tape, h.output, h.size, h.block⟩
theorem told_drew {w : World} {v v' : Value} (h : Told w.drew v v') : Told w v v' := h
/-- What Append's closure leaves. -/
def AppEnd (F : Nat → Prop) (w : World) (fb nb db : Nat) (S : DS) (s : Nm) (b : List UInt8) (w' : World) : Prop :=
  ∃ F' M', Chg (fun k => F k ∨ k = fb ∨ k = nb) w w' ∧ (∀ k, F' k → F k ∨ k = fb ∨ k = nb ∨ w.heap.size ≤ k) ∧ (∀ k, F k → F' k) ∧ DiskIn F' w' db (putS S s b) M' ∧ M'.used = usedS (putS S s b)

theorem app_end {F : Nat → Prop} {w w' : World} {fb nb db : Nat} {S : DS} {M' : Mem} {s : Nm} {b : List UInt8} {k : Nat} (E : putS S s b = addF S k b) (h : Chg F w w' ∧ DiskIn (Plus F w w') w' db (addF S k b) M') (hu : M'.used = usedS (addF S k b)) : AppEnd F w fb nb db S s b w' := by
  unfold AppEnd
  rw [E]
  exact ⟨_, _, h.1.mono (fun _ _ hk => .inl hk), fun _ hk => hk.elim .inl (fun h' => .inr (.inr (.inr h'.1))), fun _ hk => .inl hk, h.2, hu⟩
set_option maxRecDepth 100000 in
set_option maxHeartbeats 2000000 in
theorem appC_some {F : Nat → Prop} {w : World} {db : Nat} {S : DS} {M : Mem} (fb xb nb bb : Nat) (s : Nm) (b : List UInt8) (a : Option Addr) (n c : Nat) (h : DiskIn F w db S M) (hi : Inv S) (k : Nat) (hk : look S.now s = some k) (hu : M.used = usedS S) (hq : usedS S + b.length ≤ S.quota)
    (rf : RowAt w fb 68 [Pt (M.bl.getD k 0)]) (rx : RowAt w xb 24 [Pt db]) (rb : RowAt w bb 35 [.slice a n c]) (hB : ∀ W, Chg F w W → Bytes W a n c b) :
    Calls Try.prog 31 #[Pt fb, Pt xb, Pt nb, Pt bb] w fun e w' => e = .returned (.tuple #[]) ∧ AppEnd F w fb nb db S s b w' := by
  have hlt := hi.nids _ (look_mem hk)
  have hb0 := hB w Chg.refl
  have hlen : b.length = n := hb0.1
  obtain ⟨fa, fn, fc, hv, hfb⟩ := (h.files.own k hlt).bytes
  have hfl : (S.files.getD k ([], 0)).1.length ≤ usedS S := len_le_used (look_mem hk)
  have hown := h.files.own k hlt
  have hfr := h.files.row k hlt
  have E : putS S s b = addF S k b := by unfold putS; rw [hk]; rfl
  have HU := Lib.hid (used_add hi hk b)
  have FIN := Lib.hid (fun (a' : Option Addr) (r c' : Nat) (W w' : World) ho hg ht hw => add_fin h hlt (b := b) (a' := a') (r := r) (c' := c') (W := W) (w' := w') ho hg ht (usedS S + b.length) hw)
  have KP := Lib.hid (fun (W : World) hg => app_keeps h hlt (W := W) hg)
  rw [hv] at hown hfr FIN KP
  have HB := Lib.hid hb0
  have HO := Lib.hid hown
  have c1 := rf.cell 0 rfl
  have c2 := rx.cell 0 rfl
  have c3 := rb.cell 0 rfl
  have c4 := hfr.cell 0 rfl
  have c5 := h.facts.2.2.2.2.1
  rw [hu] at c5
  have RF := Lib.hid rf
  have RX := Lib.hid rx
  have RB := Lib.hid rb
  have RR := Lib.hid hfr
  have RD := Lib.hid h.row
  have H48 := Lib.hid (show (S.files.getD k ([], 0)).1.length + n ≤ 140737488355328 by have := hi.most; omega)
  have hR : ∃ r, r = (S.files.getD k ([], 0)).1.length + n := ⟨_, rfl⟩
  obtain ⟨r, hr⟩ := hR
  have HR := Lib.hid hr
  have hq1 : (0 : Int) ≤ (usedS S : Int) := by omega
  have hq2 : ((usedS S : Nat) : Int) + (n : Int) ≤ 1073741824 := by have := hi.most; omega
  have hq3 : (0 : Int) ≤ (n : Int) := by omega
  have HN := Lib.hid hlen
  have hw1 : IntKind.i64.wrap ((usedS S : Int) + (n : Int)) = (usedS S : Int) + (n : Int) := IntWalk.i64_in _ (by omega)
  have HM := Lib.hid hu
  have HE := Lib.hid E
  clear h hi hk hu hq rf rx rb hB hlt hb0 hlen hv hfb hfl hown hfr hr E
  generalize M.bl.getD k 0 = x at *
  generalize usedS S = u at *
  go_enter Try.func31, Try.ntmps31
  go_wp2
  go_region_law ((refine step_app rfl _ _ rfl (.slice fa fn fc) _ rfl HO.out a n c b rfl HB.out H48.out r HR.out ?_); intro a' c' w2 ho2 hg2 ht2; have KK := Lib.hid (KP.out w2 (grown_drew hg2)); have d1 := (KK.out fb _ _ (by decide) RF.out).cell 0 rfl; have d4 := (KK.out x _ _ (by decide) RR.out).cell 0 rfl; have f4 := (KK.out x _ _ (by decide) RR.out).free 0; have FF := Lib.hid (fun w' hw => FIN.out a' r c' w2 w' ho2 (grown_drew hg2) (told_drew ht2) hw); have RD2 := Lib.hid (KK.out db _ _ (by decide) RD.out); have RX2 := Lib.hid (KK.out xb _ _ (by decide) RX.out); have RB2 := Lib.hid (KK.out bb _ _ (by decide) RB.out); have RR2 := Lib.hid (KK.out x _ _ (by decide) RR.out); clear ho2 hg2 ht2)
  all_goals
    obtain ⟨W3, hW3⟩ : ∃ W3, W3 = w2.setCell ⟨x, 0, none⟩ (.slice a' r c') := ⟨_, rfl⟩
    have g2 := (RX2.out.other (a := ⟨x, 0, none⟩) (ne_of_types RX2.out RR2.out (by decide)) (.slice a' r c')).cell 0 rfl
    have g3 := (RB2.out.other (a := ⟨x, 0, none⟩) (ne_of_types RB2.out RR2.out (by decide)) (.slice a' r c')).cell 0 rfl
    have RD3 := RD2.out.other (a := ⟨x, 0, none⟩) (ne_of_types RD2.out RR2.out (by decide)) (.slice a' r c')
    have g4 := RD3.cell 4 rfl
    have g5 := RD3.free 4
    rw [HM.out] at g4
    rw [← hW3] at g2 g3 g4 g5 ⊢
    have HW3 := Lib.hid hW3
    clear hW3 RD3 d1 d4 f4 c2 c3 c5
    go_wp2
    go_still_tail 9, (by kernel_rfl)
    change wpList _ _ _ _ _ W3.drew
    go_wp2
    have e : ((u + b.length : Nat) : Int) = (u : Int) + (n : Int) := by rw [HN.out]; exact Int.natCast_add u n
    have HW := HW3.out
    subst HW
    refine bodyPost_end (results_none rfl _ _ _) rfl ?_
    refine ⟨rfl, ?_⟩
    refine app_end HE.out (FF.out _ ⟨?_, rfl, rfl, rfl⟩) HU.out.symm
    rw [e]
    rfl
#print axioms appC_some
end Go.Proofs.Ytemphljkfpkgmaa
