/-
  The walk of Crash.
-/
import Derived.Test.YtemphljkfpkgmaaDiskCut
import Derived.Deep.RegionWith
namespace Go.Proofs.Ytemphljkfpkgmaa
open Go.RowKit Go.Maps

def crM (M : Mem) (vs : List Value) (u : Nat) : Mem := { M with av := .slice none 0 0, fs := [], vs := vs, used := u }
/-- In the midst of a crash: i files are cut. -/
def CutAt (F : Nat → Prop) (w : World) (db xb : Nat) (S : DS) (L : Dir) (M : Mem) (fs : List Int) (a : Option Addr) (n : Nat) (na : Option Addr) (nc : Nat) (i : Nat) (W : World) : Prop :=
  ∃ vs, DiskIn F W db (cutS S L fs i) (crM M vs (usedC S.files L fs i)) ∧ (∃ a' n' c', RowAt W xb 27 [.slice a' n' c'] ∧ At1 I W a' n' c' (fs.drop (i + 1)) ∧ (0 < n' → 0 < n) ∧ ∀ g off, a' = some ⟨g, off, none⟩ → ∃ off', a = some ⟨g, off', none⟩) ∧
    Chg (fun k => F k ∨ w.heap.size ≤ k) w W ∧ At1 St W na (names L).length nc (names L)
theorem fold_le {S : DS} (h : S.kept.length + S.acts.length ≤ 1000000) (n : Nat) : (foldN S n).length ≤ 1000000 := by
  have h1 := fold_length (S.acts.take n) S.kept
  have h2 : (S.acts.take n).length ≤ S.acts.length := by rw [List.length_take]; omega
  unfold foldN
  omega
section
variable {F : Nat → Prop} {w w1 W : World} {db xb : Nat} {S : DS} {M : Mem}
theorem crash_start {fs : List Int} {n0 : Nat} (hM : DiskIn F w1 db (keptS S n0) { M with av := .slice none 0 0, fs := [] }) :
    Chg F w1 (w1.setCell ⟨db, 4, none⟩ (.int .i64 0)) ∧ DiskIn F (w1.setCell ⟨db, 4, none⟩ (.int .i64 0)) db (cutS S (foldN S n0) fs 0) (crM M M.vs 0) :=
  used_fin hM 0 ⟨rfl, rfl, rfl, rfl⟩
/-- A fate whose number is told. -/
def FateIs (w : World) (xb : Nat) (a : Option Addr) (n : Nat) (fs : List Int) (t : Nat) (e : Ending) (w' : World) : Prop :=
  e = .returned (.int .i64 (t : Int)) ∧ Chg (fun k => k = xb) w w' ∧ ∃ a' n' c', RowAt w' xb 27 [.slice a' n' c'] ∧ At1 I w' a' n' c' (fs.drop 1) ∧ (0 < n' → 0 < n) ∧ ∀ g off, a' = some ⟨g, off, none⟩ → ∃ off', a = some ⟨g, off', none⟩
theorem fate_is {w w' : World} {xb : Nat} {a : Option Addr} {n : Nat} {fs : List Int} {c0 t : Nat} (ht : fateF fs 0 c0 = t) {e : Ending} (h : FateEnd w xb a n fs c0 e w') : FateIs w xb a n fs t e w' := by
  obtain ⟨h1, h2⟩ := h
  exact ⟨by rw [h1, ht], h2⟩
/-- What a crash leaves. -/
def CrashEnd (F : Nat → Prop) (w : World) (db : Nat) (S : DS) (e : Ending) (w' : World) : Prop := e = .returned (.tuple #[]) ∧ ∃ F', Step F w w' F' ∧ DiskAt F' w' db S
theorem chg_wide {X Y : Nat → Prop} (h : Chg X w W) (hX : ∀ k, X k → Y k) : Chg Y w W := h.mono fun k _ hk => hX k hk
end
theorem clone_dir {w : World} {b n : Nat} {bl : List Nat} {g : Nm → Option Nat} (h : DirAt w b bl n g) : Calls Try.prog 48 #[.map (some b)] w fun e w' => e = .returned (.map (some w.heap.size)) ∧ DirAt w' w.heap.size bl n g ∧ Below w.heap.size w w' := by
  obtain ⟨D, h1, h2, h3⟩ := h
  exact (AnyW.maps_Clone_owns Try.clone _ ptrElem b n D w h1).mono fun e w' ⟨e1, e2, _, e4⟩ => ⟨e1, ⟨D, e2, h2, h3⟩, e4⟩
theorem cut_round {F : Nat → Prop} {w W W6 Wf : World} {db i nc a3n : Nat} {S : DS} {L : Dir} {M : Mem} {fs : List Int} {a a3 a6 : Option Addr} {n n3 n6 c6 nb no : Nat} {vs vs' : List Value} {u u' : Nat} {Z : World}
    (D : DiskIn F W db (cutS S L fs i) (crM M vs u)) (hlt : ∀ k, F k → k < w.heap.size) (kC : Chg (fun k => F k ∨ w.heap.size ≤ k) w W) (k6 : Chg (fun k => k = w.heap.size) W.drew W6)
    (r6 : RowAt W6 w.heap.size 27 [.slice a6 n6 c6]) (t6 : At1 I W6 a6 n6 c6 ((fs.drop (i + 1)).drop 1)) (b6 : (0 < n6 → 0 < n3) ∧ ∀ g off, a6 = some ⟨g, off, none⟩ → ∃ off', a3 = some ⟨g, off', none⟩) (b3 : (0 < n3 → 0 < n) ∧ ∀ g off, a3 = some ⟨g, off, none⟩ → ∃ off', a = some ⟨g, off', none⟩)
    (hAF : 0 < n → ∀ g off, a = some ⟨g, off, none⟩ → ¬ F g) (hNA : At1 St W (some ⟨nb, no, none⟩) a3n nc (names L)) (hnl : a3n = (names L).length) (hng : ¬ F nb ∧ nb ≠ w.heap.size)
    (cf : ∀ W W', DiskIn F W db (cutS S L fs i) (crM M vs u) → SameW Z W' → W = W6 → Chg F W W' ∧ DiskIn F W' db (cutS S L fs (i + 1)) (crM M vs' u')) (hu : usedC S.files L fs (i + 1) = u') (hw : SameW Z Wf) : CutAt F w db w.heap.size S L M fs a n (some ⟨nb, no, none⟩) nc (i + 1) Wf := by
  subst hnl
  have hxF : ¬ F w.heap.size := fun e => by have := hlt _ e; omega
  have D6 : DiskIn F W6 db (cutS S L fs i) (crM M vs u) := D.same k6.size (fun k hk => k6.block k (D.lt k hk) (fun e => hxF (e ▸ hk)))
  obtain ⟨kf, df⟩ := cf W6 Wf D6 hw rfl
  have k6' : Chg (fun k => k = w.heap.size) W W6 := Chg.undrew k6
  refine ⟨vs', by rw [hu]; exact df, ⟨a6, n6, c6, r6.same (kf.block _ r6.lt hxF), ?_, fun h => b3.1 (b6.1 h), fun g off e => ?_⟩, ?_, ?_⟩
  · have e : (fs.drop (i + 1)).drop 1 = fs.drop (i + 1 + 1) := by rw [List.drop_drop]
    rw [e] at t6
    exact t6.later (fun hn g off e => by obtain ⟨o1, e1⟩ := b6.2 g off e; obtain ⟨o2, e2⟩ := b3.2 g o1 e1; exact hAF (b3.1 (b6.1 hn)) g o2 e2) kf
  · obtain ⟨o1, e1⟩ := b6.2 g off e
    exact b3.2 g o1 e1
  · exact chg_two (chg_two kC k6' (fun k hk e => .inr (by omega))) kf (fun _ _ e => .inl e)
  · have h1 := hNA.later (X := fun k => k = w.heap.size) (fun _ g off e e2 => by cases e; exact hng.2 e2) k6'
    exact h1.later (fun _ g off e e2 => by cases e; exact hng.1 e2) kf
theorem crash_end {F : Nat → Prop} {w W Wf : World} {db : Nat} {S : DS} (kC : Chg (fun k => F k ∨ w.heap.size ≤ k) w W) (h : Chg F W Wf ∧ DiskAt (Plus F W Wf) Wf db S) : CrashEnd F w db S (.returned (.tuple #[])) Wf :=
  ⟨rfl, _, ⟨chg_two (kC.mono fun k hk e => e.elim id (fun h => by omega)) h.1 (fun _ _ e => e), fun _ hk => hk.elim .inl (fun h' => .inr (Nat.le_trans kC.size h'.1)), fun _ h => .inl h⟩, h.2⟩
set_option maxRecDepth 100000 in
set_option maxHeartbeats 8000000 in
theorem crash_any {F : Nat → Prop} {w : World} {db : Nat} {S : DS} (a : Option Addr) (n c : Nat) (fs : List Int) (h : DiskAt F w db S) (hsz : S.kept.length + S.acts.length ≤ 1000000) (hA : At1 I w a n c fs) (hAF : 0 < n → ∀ g off, a = some ⟨g, off, none⟩ → ¬ F g) (hz : ∀ z ∈ fs, -9223372036854775808 ≤ z ∧ z ≤ 9223372036854775807) :
    Calls Try.prog 26 #[Pt db, .slice a n c] w (CrashEnd F w db (crashS S fs)) := by
  obtain ⟨hi, M, hM, hu⟩ := h
  have hc1 : Chg (fun _ => False) w (w.alloc (.cells #[.slice a n c] 27)) := Chg.refl.alloc _
  have hM1 := hM.later hc1
  have rX1 := row_new1 w (.slice a n c) 27
  have hA1 : At1 I (w.alloc (.cells #[.slice a n c] 27)) a n c fs := hA.later (fun _ _ _ _ e => e) hc1
  obtain ⟨aa, ac, hav, _⟩ := acts_at hM1.acts
  have c3 := hM1.facts.2.2.2.1
  rw [hav] at c3
  have FT := Lib.hid (fate_any (w := w.alloc (.cells #[.slice a n c] 27)) w.heap.size a n c fs (S.acts.length + 1) (by omega) (by omega) rX1 hA1 hz)
  rw [show ((S.acts.length + 1 : Nat) : Int) = (S.acts.length : Int) + 1 from by omega] at FT
  have hn0 : fateF fs 0 (S.acts.length + 1) ≤ S.acts.length := by have := fate_lt fs 0 (c := S.acts.length + 1) (by omega); omega
  have HL : foldN S (fateF fs 0 (S.acts.length + 1)) = leftS S fs := rfl
  obtain ⟨n0, hne⟩ : ∃ n0, fateF fs 0 (S.acts.length + 1) = n0 := ⟨_, rfl⟩
  rw [hne] at hn0 HL
  have FT := Lib.hid (FT.out.mono fun e w' hf => fate_is hne hf)
  have HI := Lib.hid hi
  have HM := Lib.hid hM
  have HM1 := Lib.hid hM1
  have HC1 := Lib.hid hc1
  have HSZ := Lib.hid hsz
  have HN0 := Lib.hid hn0
  have HAF := Lib.hid hAF
  have HZ := Lib.hid hz
  have HA := Lib.hid hA
  have HLL := Lib.hid HL
  have q1 : (S.acts.length : Int) ≤ 1000000 := by omega
  have q0 : (0 : Int) ≤ (S.acts.length : Int) := by omega
  clear hne hi hM hu hc1 hM1 rX1 hA1 hav hn0 hsz hAF hz hA HL
  go_enter Try.func26, Try.ntmps26
  go_wp2_with (first
    | (go_at_call 47; (with_reducible refine FT.out.mono ?_); intro e W2 hf; obtain ⟨rfl, k2, a2, n2, c2, r2, t2, b2⟩ := hf; have D2 := Lib.hid (HM1.out.same k2.size (fun k hk => k2.block k (HM1.out.lt k hk) (fun e => by have := HM.out.lt k hk; omega))); have KP := Lib.hid (keep_any n0 D2.out HI.out HN0.out HSZ.out); have K2 := Lib.hid k2; have R2 := Lib.hid r2; have T2 := Lib.hid t2; have B2 := Lib.hid b2; clear k2 r2 t2 b2)
    | (go_at_call 40; (with_reducible refine KP.out.mono ?_); rintro e W3 ⟨rfl, k3, d3⟩; have K3 := Lib.hid k3; have D3 := Lib.hid d3; have e4 := d3.row.cell 4 rfl; have f4 := d3.row.free 4; have e2 := d3.row.cell 2 rfl; have CS := Lib.hid (crash_start (fs := fs) d3); have NM := Lib.hid (names_any M.bk _ M.bl (foldN S n0) _ CS.out.2.kept (((HI.out.runs.ahead n0).good HI.out.good).sorted) (fold_le HSZ.out n0)); clear k3 d3)
    | (go_at_call 28; (with_reducible refine NM.out.mono ?_); rintro e W5 ⟨na, nc, rfl, nA, nb, ng⟩; have NA := Lib.hid nA; have NB := Lib.hid nb; have NG := Lib.hid ng; clear nA nb ng))
  have ST := Lib.hid (show CutAt F w db w.heap.size S (foldN S n0) M fs a n na nc 0 W5 from by
    have kA : Chg (fun k => F k ∨ w.heap.size ≤ k) w W2 := chg_two (chg_wide HC1.out.never (fun k (e : F k) => .inl e)) K2.out (fun k hk e => .inr (by omega))
    have kB : Chg (fun k => F k ∨ w.heap.size ≤ k) w W3 := chg_two kA K3.out (fun k _ e => .inl e)
    have kC : Chg (fun k => F k ∨ w.heap.size ≤ k) w (W3.setCell ⟨db, 4, none⟩ (.int .i64 0)) := chg_two kB CS.out.1 (fun k _ e => .inl e)
    have kD : Chg F W2 (W3.setCell ⟨db, 4, none⟩ (.int .i64 0)) := K3.out.trans CS.out.1
    have hxF : ¬ F w.heap.size := fun e => by have := HM.out.lt _ e; omega
    refine ⟨M.vs, CS.out.2.same NB.out.size (fun k hk => NB.out.block k (CS.out.2.lt k hk)), ⟨a2, n2, c2, ?_, ?_, B2.out⟩, kC.belowN NB.out, NA.out⟩
    · have r1 := R2.out.same (kD.block _ R2.out.lt hxF)
      exact r1.same (NB.out.block _ r1.lt)
    · have t1 := T2.out.later (fun hn g off e => by obtain ⟨o', e'⟩ := B2.out.2 g off e; exact HAF.out (B2.out.1 hn) g o' e') kD
      exact t1.below NB.out)
  have HLEN := Lib.hid (show (names (foldN S n0)).length = (foldN S n0).length by simp [names])
  have HGOOD := Lib.hid (show GoodD (foldN S n0) from (HI.out.runs.ahead n0).good HI.out.good)
  have HIDS := Lib.hid (show ∀ i, i < (foldN S n0).length → atD (foldN S n0) i < S.files.length from fun i hi => by
    rw [atD_at hi]
    have h1 := HI.out.lids fs
    rw [← HLL.out] at h1
    exact h1 _ (List.getElem_mem hi))
  have HLE := Lib.hid (fold_le HSZ.out n0)
  have HNGG := Lib.hid (show ∀ g off, na = some ⟨g, off, none⟩ → ¬ F g ∧ g ≠ w.heap.size from fun g off e => by
    have h1 := NG.out g off e
    have h2 := CS.out.1.size
    have h3 := K3.out.size
    have h4 := K2.out.size
    have h5 : (w.alloc (.cells #[.slice a n c] 27)).heap.size = w.heap.size + 1 := by simp
    exact ⟨fun e2 => by have := HM.out.lt g e2; omega, by omega⟩)
  generalize hL : foldN S n0 = L at *
  clear c3 e4 f4 e2
  go_loopg [30] L.length (fun g v30 W => ∃ i : Nat, v30 = .int .i64 i ∧ g + i = L.length ∧ Hid (CutAt F w db w.heap.size S L M fs a n na nc i W))
  case atStart => exact ⟨0, rfl, rfl, ST⟩
  case round =>
    obtain ⟨i, rfl, hg, hrel⟩ := hrel
    have HG := Lib.hid hg
    have hi0 : (0 : Int) ≤ (i : Int) := by omega
    have hiI : (i : Int) ≤ (L.length : Int) := by omega
    have hiM : (i : Int) ≤ 1000000 := by have := HLE.out; omega
    obtain ⟨vs, hD, ⟨a3, n3, c3, r3, t3, b3⟩, kC, hNA⟩ := hrel.out
    have RD := Lib.hid hD
    have KC := Lib.hid kC
    have e2 : wr.cell? ⟨db, 2, none⟩ = some (.map (some M.bk)) := hD.row.cell 2 rfl
    clear hg hrel
    by_cases hi : (i : Int) < (L.length : Int)
    · have hin : i < L.length := by omega
      have hni : (i : Int) < ((names L).length : Int) := by rw [HLEN.out]; exact hi
      have hnn : i < (names L).length := by rw [HLEN.out]; exact hin
      have hk := HIDS.out i hin
      have hfile : (cutS S L fs i).files.getD (atD L i) ([], 0) = S.files.getD (atD L i) ([], 0) := cutTo_later fs HGOOD.out.once HIDS.out (Nat.le_refl _) hin
      have hk2 : atD L i < (cutS S L fs i).files.length := by show _ < (cutTo S.files L fs i).length; rw [cutTo_length]; exact hk
      have hrow : RowAt wr (M.bl.getD (atD L i) 0) 73 (fileC (vs.getD (atD L i) undef) ((cutS S L fs i).files.getD (atD L i) ([], 0)).2) := hD.files.row _ hk2
      have hown : Own wr 0 (vs.getD (atD L i) undef) ((cutS S L fs i).files.getD (atD L i) ([], 0)).1 := hD.files.own _ hk2
      rw [hfile] at hrow hown
      obtain ⟨fa, fn, fc, hv, hb⟩ := hown.bytes
      rw [hv] at hrow
      have hsyn := file_syn HI.out (atD L i)
      have hmost := HI.out.most
      obtain ⟨nm, hnm⟩ : ∃ nm, (names L).getD i default = nm := ⟨_, rfl⟩
      have hnm2 : look L nm = some (atD L i) := by
        rw [← hnm, atD_at hin]
        refine look_of_mem HGOOD.out.sorted ?_
        simp [names, List.getD_eq_getElem?_getD, hin]
        exact List.getElem_mem hin
      obtain ⟨nb, no, rfl⟩ := hNA.some_ (by omega)
      have hcell := hNA.cell i hnn
      rw [hnm] at hcell
      unfold St at hcell
      have hlk0 := dir_look hD.kept (strB nm) (by rw [strB_size]; have := may_le (show mayN nm = true from HGOOD.out.named _ (look_mem hnm2)); omega)
      rw [strB_eq] at hlk0
      have hlk : (Instr.lookup 47 (.map (some M.bk)) (.string (strB nm)) false).run Try.prog wr = .ok (ptrOf M.bl (some (atD L i))) wr := by rw [← hnm2]; exact hlk0
      clear hlk0
      simp only [ptrOf] at hlk
      have hcut := cut_le _ fs i hsyn.1
      obtain ⟨y, hy⟩ : ∃ y, (S.files.getD (atD L i) ([], 0)).2 = y := ⟨_, rfl⟩
      obtain ⟨tt, htt⟩ : ∃ t, fateF fs (i + 1) (fn - y + 1) = t := ⟨_, rfl⟩
      obtain ⟨m, hm⟩ : ∃ m, m = cutN (S.files.getD (atD L i) ([], 0)) fs i := ⟨_, rfl⟩
      have hfn : (S.files.getD (atD L i) ([], 0)).1.length = fn := hb.1
      have hmy : m = y + tt := by rw [hm, ← htt, ← hy]; unfold cutN; rw [hfn]
      rw [← hm] at hcut
      rw [hy, hfn] at hcut hsyn
      have hus := usedC_le (q := 1073741824) (fun k => ⟨(file_syn HI.out k).1, Nat.le_trans (file_syn HI.out k).2 hmost⟩) L fs i
      have hle := HLE.out
      have hus2 : usedC S.files L fs i ≤ 1000000 * 1073741824 := Nat.le_trans hus (Nat.mul_le_mul_right _ (by omega))
      have hfc := hb.2.1
      have hz2 : ∀ z ∈ fs.drop (i + 1), -9223372036854775808 ≤ z ∧ z ≤ 9223372036854775807 := fun z h => HZ.out z (List.mem_of_mem_drop h)
      have FT3 := fate_any (w := wr.drew) w.heap.size a3 n3 c3 (fs.drop (i + 1)) (fn - y + 1) (by omega) (by omega) r3 t3 hz2
      rw [show ((fn - y + 1 : Nat) : Int) = (fn : Int) - (y : Int) + 1 from by omega] at FT3
      have FT3 := Lib.hid (FT3.mono fun e w' hf => fate_is (t := tt) (by rw [fate_drop]; exact htt) hf)
      have CF := Lib.hid (show ∀ W W', DiskIn F W db (cutS S L fs i) (crM M vs (usedC S.files L fs i)) → SameW (((W.setCell ⟨M.bl.getD (atD L i) 0, 1, none⟩ (.int .i64 (m : Int))).setCell ⟨M.bl.getD (atD L i) 0, 0, none⟩ (.slice fa m fc)).setCell ⟨db, 4, none⟩ (.int .i64 ((usedC S.files L fs i + m : Nat) : Int))) W' →
          Chg F W W' ∧ DiskIn F W' db (cutS S L fs (i + 1)) (crM M (vs.set (atD L i) (.slice fa m fc)) (usedC S.files L fs i + m)) from fun W W' h hw => cut_fin h HGOOD.out.once HIDS.out hin (fun k => (file_syn HI.out k).1) hv hm (u := usedC S.files L fs i + m) (w' := W') hw)
      have hu2 : usedC S.files L fs (i + 1) = usedC S.files L fs i + m := by rw [hm]; rfl
      rw [hy] at hrow
      have HROW := Lib.hid hrow
      have RX3 := Lib.hid r3
      have B3 := Lib.hid b3
      have NA3 := Lib.hid hNA
      have HU2 := Lib.hid hu2
      have hxF : ¬ F w.heap.size := fun e => by have := HM.out.lt _ e; omega
      have HXF := Lib.hid hxF
      have d0 : wr.cell? ⟨M.bl.getD (atD L i) 0, 0, none⟩ = some (.slice fa fn fc) := hrow.cell 0 rfl
      have d1 : wr.cell? ⟨M.bl.getD (atD L i) 0, 1, none⟩ = some (.int .i64 (y : Int)) := hrow.cell 1 rfl
      have g1 := hrow.free 1
      have d4 : wr.cell? ⟨db, 4, none⟩ = some (.int .i64 (usedC S.files L fs i : Nat)) := hD.row.cell 4 rfl
      have hxne : M.bl.getD (atD L i) 0 ≠ w.heap.size := fun e => hxF (e ▸ (hD.files.inF _ hk2).1)
      have HXNE := Lib.hid hxne
      have HDX := Lib.hid (hD.db_file ⟨_, .inl hrow⟩)
      have HDB := Lib.hid (show db ≠ w.heap.size from fun e => hxF (e ▸ hD.inF.1))
      have v1 : (y : Int) ≤ 1073741824 := by omega
      have v2 : (0 : Int) ≤ (y : Int) := by omega
      have v3 : (fn : Int) ≤ 1073741824 := by omega
      have v4 : (y : Int) ≤ (fn : Int) := by omega
      have v5 : (m : Int) ≤ (fc : Int) := by omega
      have v6 : m ≤ fc := by omega
      have v7 : IntKind.i64.wrap ((fn : Int) - (y : Int)) = (fn : Int) - (y : Int) := IntWalk.i64_in _ (by omega)
      have v8 : IntKind.i64.wrap ((fn : Int) - (y : Int) + 1) = (fn : Int) - (y : Int) + 1 := IntWalk.i64_in _ (by omega)
      have v9 : IntKind.i64.wrap ((y : Int) + (tt : Int)) = (m : Int) := by rw [IntWalk.i64_in _ (by omega)]; omega
      have v10 : IntKind.i64.wrap ((usedC S.files L fs i : Int) + (m : Int)) = ((usedC S.files L fs i + m : Nat) : Int) := by rw [IntWalk.i64_in _ (by omega)]; omega
      have HIN := Lib.hid hin
      clear hk hfile hk2 hrow hown hv hb hsyn hmost hnm hnm2 hNA hcut hy htt hm hfn hmy hus hle hus2 hfc hz2 hu2 hxF hxne hD r3 t3 b3 kC
      generalize M.bl.getD (atD L i) 0 = x at *
      generalize strB nm = sb at *
      generalize hus3 : usedC S.files L fs i = us at *
      go_wp2
      go_region_with (go_at_call 47; (with_reducible refine FT3.out.mono ?_); intro e W6 hf; obtain ⟨rfl, k6, a6, n6, c6, r6, t6, b6⟩ := hf; have d6 : W6.cell? ⟨x, 1, none⟩ = some (.int .i64 (y : Int)) := (HROW.out.same (k6.block x HROW.out.lt HXNE.out)).cell 1 rfl; have g6 := (HROW.out.same (k6.block x HROW.out.lt HXNE.out)).free 1; have K6 := Lib.hid k6; have R6 := Lib.hid r6; have T6 := Lib.hid t6; have B6 := Lib.hid b6; clear k6 r6 t6 b6)
      all_goals
        have rx6 := HROW.out.same (K6.out.block x HROW.out.lt HXNE.out)
        have rd6 := RD.out.row.same (K6.out.block db RD.out.row.lt HDB.out)
        have rx7 := rx6.set 1 (.int .i64 (m : Int))
        have rd7 := rd6.other (a := ⟨x, 1, none⟩) HDX.out.symm (.int .i64 (m : Int))
        obtain ⟨W7, hW7⟩ : ∃ W7, W7 = W6.setCell ⟨x, 1, none⟩ (.int .i64 (m : Int)) := ⟨_, rfl⟩
        rw [← hW7] at rx7 rd7 ⊢
        have HW7 := Lib.hid hW7
        have s0 : W7.cell? ⟨x, 0, none⟩ = some (.slice fa fn fc) := rx7.cell 0 rfl
        have s1 : W7.cell? ⟨x, 1, none⟩ = some (.int .i64 (m : Int)) := rx7.cell 1 rfl
        have sf := rx7.free 0
        have RX7 := Lib.hid rx7
        have RD7 := Lib.hid rd7
        clear hW7 rx6 rd6 rx7 rd7 d0 d1 g1 d4 d6 g6 e2 hcell hlk
        go_wp2
        go_still_tail 12, (by kernel_rfl)
        change wpList _ _ _ _ _ W7.drew
        go_wp2
        have rx8 := RX7.out.set 0 (.slice fa m fc)
        have rd8 := RD7.out.other (a := ⟨x, 0, none⟩) HDX.out.symm (.slice fa m fc)
        obtain ⟨W8, hW8⟩ : ∃ W8, W8 = (W7.setCell ⟨x, 0, none⟩ (.slice fa m fc)).drew := ⟨_, rfl⟩
        have s2 : W8.cell? ⟨x, 1, none⟩ = some (.int .i64 (m : Int)) := (rx8.same (w' := W8) (by rw [hW8]; rfl)).cell 1 rfl
        have s3 : W8.cell? ⟨db, 4, none⟩ = some (.int .i64 (us : Int)) := (rd8.same (w' := W8) (by rw [hW8]; rfl)).cell 4 rfl
        have s4 := (rd8.same (w' := W8) (by rw [hW8]; rfl)).free 4
        rw [← hW8]
        have HW8 := Lib.hid hW8
        clear hW8 rx8 rd8 s0 s1 sf
        go_still_tail 11, (by kernel_rfl)
        change wpList _ _ _ _ _ W8.drew
        go_wp2
        have FIN := Lib.hid (fun Wf hw => cut_round (Wf := Wf) (nc := nc) RD.out HM.out.lt KC.out K6.out R6.out T6.out B6.out B3.out HAF.out NA3.out rfl (HNGG.out nb no rfl) (fun W W' h1 h2 h3 => CF.out W W' h1 (by rw [h3]; exact h2)) HU2.out hw)
        go_roundg (gk - 1)
        case measure => have := HG.out; have := HIN.out; omega
        case rel =>
          refine ⟨i + 1, by go_num, by have := HG.out; have := HIN.out; omega, Lib.hid (FIN.out _ ⟨?_, ?_, ?_, ?_⟩)⟩
          all_goals (have e8 := HW8.out; have e7 := HW7.out; subst e8; subst e7; rfl)
    · have hin : i = L.length := by omega
      have hni : ¬ (i : Int) < ((names L).length : Int) := by rw [HLEN.out]; exact hi
      subst hin
      have CL := Lib.hid (clone_dir (show DirAt wr M.bk M.bl _ _ from hD.kept))
      have RDB := Lib.hid hD.row
      clear hD r3 t3 b3 kC hNA
      go_wp2_with (first
        | (go_at_call 48; (with_reducible refine CL.out.mono ?_); rintro e W7 ⟨rfl, hd7, hb7⟩; have HD7 := Lib.hid hd7; have HB7 := Lib.hid hb7; have rd7 := RDB.out.same (hb7.block _ RDB.out.lt); have p1 := rd7.cell 1 rfl; have f1 := rd7.free 1; have p6 := rd7.cell 6 rfl; have f6 := rd7.free 6; have p7 := rd7.cell 7 rfl; have f7 := rd7.free 7; clear hd7 hb7 rd7))
      have e := HLL.out
      subst e
      refine bodyPost_end (results_none rfl _ _ _) rfl ?_
      exact crash_end KC.out (left_fin RD.out HI.out rfl HD7.out HB7.out (Nat.le_refl _) ⟨rfl, rfl, rfl, rfl⟩)
#print axioms crash_any
end Go.Proofs.Ytemphljkfpkgmaa
