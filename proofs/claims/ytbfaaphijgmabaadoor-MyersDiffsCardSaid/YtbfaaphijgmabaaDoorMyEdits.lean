/-
  A script as edits: walked.
-/
import Derived.Test.YtbfaaphijgmabaaDoorMyEnd
import Derived.Deep.RegionLaw
namespace Go.Proofs.YtbfaaphijgmabaaDoor
open Go.RowKit My

/-- What stands behind the first rune. -/
theorem wl_tail {w w0 : World} {ops : Array Oper} {rest : List Oper} {o : Oper} {a : Act} {Q : Exit → Act → World → Prop} (hgd : o.guard = none) (s : Operand) (ho : o.op = .slice 22 s (some (.const (.int .i64 1))) none none)
    (ta : Option Addr) (n tc : Nat) (z : Int) (L : List Int) (hs : a.eval s = .slice ta (n + 1) tc) (h : Runs w0 ta (n + 1) tc (z :: L))
    (hK : ∀ ta' tc', Runs w0 ta' n tc' L → wpList Tryd.prog ops Q rest (a.put o.dst (.slice ta' n tc')) w) : wpList Tryd.prog ops Q (o :: rest) a w := by
  obtain ⟨h1, h2, h3, h4⟩ := h
  obtain ⟨b, off, rfl, hc⟩ : ∃ b off, ta = some ⟨b, off, none⟩ ∧ ∀ j, j < n + 1 → w0.cell? ⟨b, off + j, none⟩ = some (.int .i32 ((z :: L).getD j 0)) := by
    rcases h4 with h4 | h4
    · omega
    · exact h4
  have hl : L.length = n := by simpa using h1
  have hU := Tryd.underlying22
  obtain ⟨ta', tc', hrun, hR⟩ : ∃ ta' tc', (Instr.sliceAt 22 (.slice (some ⟨b, off, none⟩) (n + 1) tc) (some (.int .i64 1)) none none).run Tryd.prog w = .ok (.slice ta' n tc') w ∧ Runs w0 ta' n tc' L := by
    by_cases hc1 : tc = 1
    · subst hc1
      obtain rfl : n = 0 := by omega
      refine ⟨some ⟨b, off, none⟩, 0, ?_, by simpa using hl, Nat.le_refl _, by omega, .inl ⟨rfl, rfl⟩⟩
      simp [go_sem, hU]
    · refine ⟨some ⟨b, off + 1, none⟩, tc - 1, ?_, hl, by omega, by omega, .inr ⟨b, off + 1, rfl, fun j hj => ?_⟩⟩
      · simp [go_sem, hU, hc1]
        intro h
        omega
      · have := hc (j + 1) (by omega)
        rw [show off + 1 + j = off + (j + 1) by omega]
        simpa using this
  refine wpList_plain hgd fun K' hK' => ?_
  unfold Oper.wp
  have he : a.eval (.const (.int .i64 1)) = .int .i64 1 := rfl
  simp [execOp, ho, hs, he, hrun, Result.andThen]
  exact hK' _ _ (hK _ _ hR)
/-- An edit of runes, as it lies. -/
def ev (x : Er) : EdV := ⟨x.k, x.d, txt x.a⟩
def notDrop : List Int → Nat
  | [] => 0
  | z :: l => (if z = 2 then 0 else 1) + notDrop l
/-- What edits hands back. -/
def EdsIs (L : List EdV) (w : World) (e : Ending) (w' : World) : Prop := ∃ a c base, e = .returned (.slice a L.length c) ∧ OwnG edK 39 w' base (.slice a L.length c) L ∧ w.heap.size ≤ base ∧ Below w.heap.size w w'
theorem bytes_at {w : World} {a : Option Addr} {n c : Nat} {l : List UInt8} (h : Bytes w a n c l) {j : Nat} (hj : j < n) : ∃ b off, a = some ⟨b, off, none⟩ ∧ w.cell? ⟨b, off + j, none⟩ = some (.int .u8 ((l.getD j 0).toNat : Int)) := by
  rcases h.2.2.2 with ⟨h0, _⟩ | ⟨b, off, ha, hc⟩
  · omega
  · exact ⟨b, off, ha, hc j hj⟩
theorem mv_byte {ms : List Int} {i : Nat} (h : ms.getD i 0 = 1 ∨ ms.getD i 0 = 2 ∨ ms.getD i 0 = 3) (hi : i < ms.length) : (((mvB ms).getD i 0).toNat : Int) = ms.getD i 0 := by
  have e : (mvB ms).getD i 0 = UInt8.ofNat (ms.getD i 0).toNat := by
    unfold mvB
    simp [List.getD_eq_getElem?_getD, hi]
  rw [e]
  rcases h with h | h | h <;> rw [h] <;> rfl
theorem noR_ed (x : EdV) : NoR (edC x) := fun v hv z => by
  simp only [List.mem_cons, List.not_mem_nil, or_false] at hv
  rcases hv with rfl | rfl | rfl <;> simp
/-- The boxes as they are made. -/
theorem eb_new {w w2 W3 : World} {be ba : Nat} (hbe : w.heap.size + 1 = be) (hba : w2.heap.size = ba) (hW3 : w2.alloc (.cells #[.slice none 0 0] 22) = W3) (hr : RowAt w2 (w.alloc (.cells #[.slice none 0 0] 31)).heap.size 39 (edC ⟨0, 0, []⟩)) (hb : Below (w.alloc (.cells #[.slice none 0 0] 31)).heap.size (w.alloc (.cells #[.slice none 0 0] 31)) w2) (hs : w2.heap.size = (w.alloc (.cells #[.slice none 0 0] 31)).heap.size + 1) :
    EB w W3.heap.size w.heap.size be ba none 0 none 0 [] 0 0 [] W3 := by
  subst hW3
  have s1 : (w.alloc (.cells #[.slice none 0 0] 31)).heap.size = w.heap.size + 1 := by simp
  rw [s1, hbe] at hr
  have s3 : (w2.alloc (.cells #[.slice none 0 0] 22)).heap.size = w2.heap.size + 1 := by simp
  have b1 : Below w.heap.size w (w.alloc (.cells #[.slice none 0 0] 31)) := (Below.refl _ _).alloc (Nat.le_refl _) _
  have b3 : Below w2.heap.size w2 (w2.alloc (.cells #[.slice none 0 0] 22)) := (Below.refl _ _).alloc (Nat.le_refl _) _
  refine ⟨(b1.trans (hb.mono b1.size)).trans (b3.mono (by omega)), Nat.le_refl _, ((RowAt.new w _ [.slice none 0 0]).below hb).below b3, hr.below b3, ?_, OwnG.nil, World.ownsRow_nil _ _ _ _, by omega⟩
  rw [← hba]
  exact RowAt.new w2 _ [.slice none 0 0]
/-- Midway through edits: what is said of the numbers. -/
structure Eds (ms rest : List Int) (i : Nat) (L : List EdV) (c : Er) (F : List EdV) : Prop where
  sum : L ++ (eds (ms.drop i) rest c).map ev = F
  cnt : notDrop (ms.drop i) = rest.length
  okR : OkTo rest rest.length
  okA : OkTo c.a c.a.length
  le : L.length ≤ i ∧ c.k ≤ i ∧ c.d ≤ i ∧ c.a.length ≤ i
theorem drop_next {ms : List Int} {i : Nat} (hi : i < ms.length) : ms.drop i = ms.getD i 0 :: ms.drop (i + 1) := by
  rw [List.drop_eq_getElem_cons hi]; simp [hi]
theorem OkTo.tail {z : Int} {l : List Int} (h : OkTo (z :: l) (z :: l).length) : OkTo l l.length := fun i hi => h (i + 1) (by simpa using hi)
theorem OkTo.snoc {z : Int} {l : List Int} (h : OkTo l l.length) (hz : Lib.validRune z = true) : OkTo (l ++ [z]) (l ++ [z]).length := fun i hi => by
  rw [List.length_append, List.length_cons, List.length_nil] at hi
  rcases Nat.lt_or_ge i l.length with h1 | h1
  · simp only [List.getD_eq_getElem?_getD]
    rw [List.getElem?_append_left h1]
    have := h i h1
    rwa [List.getD_eq_getElem?_getD] at this
  · obtain rfl : i = l.length := by omega
    simpa using hz
theorem Eds.drop {ms rest : List Int} {i : Nat} {L : List EdV} {c : Er} {F : List EdV} (h : Eds ms rest i L c F) (hi : i < ms.length) (hz : ms.getD i 0 = 2) : Eds ms rest (i + 1) L ⟨c.k, c.d + 1, c.a⟩ F := by
  obtain ⟨h1, h2, h3, h4, h5⟩ := h
  rw [drop_next hi, hz] at h1 h2
  rw [eds_two] at h1
  exact ⟨h1, by simpa [notDrop] using h2, h3, h4, by simp only; omega⟩
theorem Eds.some_ {ms rest : List Int} {i : Nat} {L : List EdV} {c : Er} {F : List EdV} (h : Eds ms rest i L c F) (hi : i < ms.length) (hz : ms.getD i 0 ≠ 2) : ∃ u r, rest = u :: r := by
  have h2 := h.cnt
  rw [drop_next hi] at h2
  cases rest with
  | nil =>
    simp [notDrop] at h2
    exact absurd h2.1 (by simpa using hz)
  | cons u r => exact ⟨u, r, rfl⟩
theorem Eds.add {ms r : List Int} {u : Int} {i : Nat} {L : List EdV} {c : Er} {F : List EdV} (h : Eds ms (u :: r) i L c F) (hi : i < ms.length) (hz : ms.getD i 0 = 3) : Eds ms r (i + 1) L ⟨c.k, c.d, c.a ++ [u]⟩ F := by
  obtain ⟨h1, h2, h3, h4, h5⟩ := h
  rw [drop_next hi, hz] at h1 h2
  rw [eds_three] at h1
  refine ⟨h1, ?_, h3.tail, h4.snoc (by have := h3 0 (by simp); simpa using this), by simp only [List.length_append, List.length_cons, List.length_nil]; omega⟩
  simp [notDrop] at h2; omega
theorem Eds.keep {ms r : List Int} {u : Int} {i : Nat} {L : List EdV} {c : Er} {F : List EdV} (h : Eds ms (u :: r) i L c F) (hi : i < ms.length) (hz : ms.getD i 0 = 1) (hc : ¬ (0 < c.d ∨ c.a ≠ [])) : Eds ms r (i + 1) L ⟨c.k + 1, c.d, c.a⟩ F := by
  obtain ⟨h1, h2, h3, h4, h5⟩ := h
  rw [drop_next hi, hz] at h1 h2
  rw [eds_one, if_neg hc] at h1
  refine ⟨h1, ?_, h3.tail, h4, by simp only; omega⟩
  simp [notDrop] at h2; omega
theorem Eds.ends {ms r : List Int} {u : Int} {i : Nat} {L : List EdV} {c : Er} {F : List EdV} (h : Eds ms (u :: r) i L c F) (hi : i < ms.length) (hz : ms.getD i 0 = 1) (hc : 0 < c.d ∨ c.a ≠ []) : Eds ms r (i + 1) (L ++ [⟨c.k, c.d, txt c.a⟩]) ⟨1, 0, []⟩ F := by
  obtain ⟨h1, h2, h3, h4, h5⟩ := h
  rw [drop_next hi, hz] at h1 h2
  rw [eds_one, if_pos hc] at h1
  refine ⟨by rw [List.append_assoc]; exact h1, ?_, h3.tail, OkTo.zero _, by simp only [List.length_append, List.length_cons, List.length_nil]; omega⟩
  simp [notDrop] at h2; omega
set_option maxRecDepth 100000 in
set_option maxHeartbeats 4000000 in
theorem edits_any (ms tg : List Int) (ma ta : Option Addr) (mc tc : Nat) (w : World) (hm : Bytes w ma ms.length mc (mvB ms)) (ht : Runs w ta tg.length tc tg) (h123 : ∀ i, i < ms.length → ms.getD i 0 = 1 ∨ ms.getD i 0 = 2 ∨ ms.getD i 0 = 3) (hcnt : notDrop ms = tg.length) (hok : OkTo tg tg.length) (hlen : ms.length ≤ 8192) :
    Calls Tryd.prog 25 #[.slice ma ms.length mc, .slice ta tg.length tc] w (EdsIs ((edits ms tg).map ev) w) := by
  obtain ⟨mn, hmn⟩ : ∃ n, ms.length = n := ⟨_, rfl⟩
  have HM := Lib.hid hm
  have HT := Lib.hid ht
  have H3 := Lib.hid h123
  have HC := Lib.hid hcnt
  have HOK := Lib.hid hok
  have HLE := Lib.hid hlen
  have HMN := Lib.hid hmn
  rw [hmn] at HM ⊢
  have hmI : (mn : Int) ≤ 8192 := by omega
  have hm0 : (0 : Int) ≤ mn := by omega
  obtain ⟨be, hbe⟩ : ∃ b, w.heap.size + 1 = b := ⟨_, rfl⟩
  clear hm ht h123 hcnt hok hlen hmn
  go_enter Tryd.func25, Tryd.ntmps25
  go_wp2_with (first
    | ((with_reducible show wpList _ _ _ (⟨some 6, _, _, _, _, _⟩ :: _) _ _); refine alloc_row rfl 39 (edC ⟨0, 0, []⟩) rfl zeroEd ?_; intro w2 hr2 hb2 hs2; have HB2 := Lib.hid hb2; have HR2 := Lib.hid hr2; have HS2 := Lib.hid hs2; clear hr2 hb2 hs2))
  obtain ⟨ba, hba⟩ : ∃ b, w2.heap.size = b := ⟨_, rfl⟩
  obtain ⟨W3, hW3⟩ : ∃ W, w2.alloc (.cells #[.slice none 0 0] 22) = W := ⟨_, rfl⟩
  have E0 := Lib.hid (eb_new hbe hba hW3 HR2.out HB2.out HS2.out)
  have HB3 := Lib.hid E0.out.below
  rw [hW3, hba]
  clear hbe hba hW3 HR2 HB2 HS2
  go_loopg [1, 14] mn (fun gh v1 v14 W => ∃ (i : Nat) (ta : Option Addr) (tc : Nat) (rest : List Int) (la : Option Addr) (lc : Nat) (aa : Option Addr) (ac : Nat) (L : List EdV) (c : Er), v14 = .int .i64 i ∧ v1 = .slice ta rest.length tc ∧ gh + i = mn ∧ Hid (EB w W3.heap.size w.heap.size be ba la lc aa ac L c.k c.d c.a W) ∧ Hid (Runs w ta rest.length tc rest) ∧ Hid (Eds ms rest i L c ((eds ms tg ⟨0, 0, []⟩).map ev)))
  case atStart => exact ⟨0, ta, tc, tg, none, 0, none, 0, [], ⟨0, 0, []⟩, rfl, rfl, rfl, E0, HT, Lib.hid ⟨rfl, HC.out, HOK.out, OkTo.zero _, by simp⟩⟩
  case round =>
    obtain ⟨i, ta1, tc1, rest, la, lc, aa, ac, L, c, rfl, rfl, hgh, HE, HR, HS⟩ := hrel
    have HGH := Lib.hid hgh
    have hi0 : (0 : Int) ≤ (i : Int) := by omega
    have hin : (i : Int) ≤ (mn : Int) := by omega
    clear hgh
    by_cases hi : (i : Int) < (mn : Int)
    · have hib : decide (i < mn) = true := by simp; omega
      have HI := Lib.hid (show i < ms.length by rw [HMN.out]; omega)
      have hci : ∃ bm om, ma = some ⟨bm, om, none⟩ ∧ wr.cell? ⟨bm, om + i, none⟩ = some (.int .u8 (ms.getD i 0)) := by
        obtain ⟨b, off, h1, h2⟩ := bytes_at (HM.out.below HE.out.below) (show i < mn by omega)
        exact ⟨b, off, h1, by rw [h2, mv_byte (H3.out i HI.out) HI.out]⟩
      obtain ⟨bm, om, rfl, cm⟩ := hci
      rcases H3.out i HI.out with hz | hz | hz
      · -- kept
        obtain ⟨u, r, rfl⟩ := HS.out.some_ HI.out (by rw [hz]; decide)
        have HZ := Lib.hid hz
        rw [hz] at cm
        have e1 := HE.out.re.cell 1 rfl
        have a0 := HE.out.ra.cell 0 rfl
        have hd8 : (c.d : Int) ≤ 8192 ∧ (c.k : Int) ≤ 8192 := by have := HS.out.le; have := HLE.out; have := HI.out; omega
        obtain ⟨hd8, hk8⟩ := hd8
        have hd0 : (0 : Int) ≤ (c.d : Int) := by omega
        have hk0 : (0 : Int) ≤ (c.k : Int) := by omega
        obtain ⟨an, han⟩ : ∃ n, c.a.length = n := ⟨_, rfl⟩
        have HAN := Lib.hid han
        rw [han] at a0
        obtain ⟨rn, hrn⟩ : ∃ n, r.length = n := ⟨_, rfl⟩
        have HRN := Lib.hid hrn
        obtain ⟨q1, hq1⟩ : ∃ q, decide (0 < c.d) = q := ⟨_, rfl⟩
        obtain ⟨q2, hq2⟩ : ∃ q, decide (0 < an) = q := ⟨_, rfl⟩
        have hq1I : decide ((0 : Int) < (c.d : Int)) = q1 := by rw [← hq1]; simp
        have hq2I : decide ((0 : Int) < (an : Int)) = q2 := by rw [← hq2]; simp
        have HQ1 := Lib.hid hq1
        have HQ2 := Lib.hid hq2
        have END := Lib.hid (end_any w W3.heap.size w.heap.size be ba la lc aa ac L c.k c.d c.a wr HE.out HS.out.okA (by have := HS.out.le; have := HLE.out; have := HI.out; omega) (by have := HS.out.le; have := HLE.out; have := HI.out; omega))
        clear hz han hrn
        cases q1
        · cases q2
          · have HNC := Lib.hid (show ¬ (0 < c.d ∨ c.a ≠ []) by
              have h1 := HQ1.out; have h2 := HQ2.out; have h3 := HAN.out
              simp only [decide_eq_false_iff_not] at h1 h2
              rintro (h | h)
              · exact h1 h
              · exact h2 (by rw [← h3]; exact List.length_pos_iff.2 h))
            have e0 := HE.out.re.cell 0 rfl
            have f0 := HE.out.re.free 0
            go_wp2_with (first
            | (refine wl_tail rfl _ rfl ta1 r.length tc1 u r rfl HR.out ?_; intro ta5 tc5 hr5; have HR5 := Lib.hid hr5; clear hr5))
            go_roundg (mn - (i + 1))
            case measure => have := HGH.out; have := HI.out; have := HMN.out; omega
            case rel => exact ⟨i + 1, ta5, tc5, r, la, lc, aa, ac, L, ⟨c.k + 1, c.d, c.a⟩, by go_num, rfl, by have := HGH.out; have := HI.out; have := HMN.out; omega, Lib.hid (HE.out.edit 0 _ _ _ rfl), HR5, Lib.hid (HS.out.keep HI.out HZ.out HNC.out)⟩
          · have HNC := Lib.hid (show 0 < c.d ∨ c.a ≠ [] by
              have h2 := HQ2.out; have h3 := HAN.out
              simp only [decide_eq_true_eq] at h2
              exact .inr (fun h => by rw [h] at h3; simp at h3; omega))
            go_wp2_with (first
              | (go_at_call 38; (refine END.out.mono ?_); rintro en w4 ⟨rfl, la4, lc4, hE4⟩; have E4 := Lib.hid hE4; have e0 := E4.out.re.cell 0 rfl; have f0 := E4.out.re.free 0; clear hE4 e1 a0)
              | (refine wl_tail rfl _ rfl ta1 r.length tc1 u r rfl HR.out ?_; intro ta5 tc5 hr5; have HR5 := Lib.hid hr5; clear hr5))
            go_roundg (mn - (i + 1))
            case measure => have := HGH.out; have := HI.out; have := HMN.out; omega
            case rel => exact ⟨i + 1, ta5, tc5, r, la4, lc4, none, 0, L ++ [⟨c.k, c.d, txt c.a⟩], ⟨1, 0, []⟩, by go_num, rfl, by have := HGH.out; have := HI.out; have := HMN.out; omega, Lib.hid (E4.out.edit 0 (.int .i64 1) 1 0 rfl), HR5, Lib.hid (HS.out.ends HI.out HZ.out HNC.out)⟩
        · have HNC := Lib.hid (show 0 < c.d ∨ c.a ≠ [] by
            have h1 := HQ1.out
            simp only [decide_eq_true_eq] at h1
            exact .inl h1)
          go_wp2_with (first
            | (go_at_call 38; (refine END.out.mono ?_); rintro en w4 ⟨rfl, la4, lc4, hE4⟩; have E4 := Lib.hid hE4; have e0 := E4.out.re.cell 0 rfl; have f0 := E4.out.re.free 0; clear hE4 e1 a0)
            | (refine wl_tail rfl _ rfl ta1 r.length tc1 u r rfl HR.out ?_; intro ta5 tc5 hr5; have HR5 := Lib.hid hr5; clear hr5))
          go_roundg (mn - (i + 1))
          case measure => have := HGH.out; have := HI.out; have := HMN.out; omega
          case rel => exact ⟨i + 1, ta5, tc5, r, la4, lc4, none, 0, L ++ [⟨c.k, c.d, txt c.a⟩], ⟨1, 0, []⟩, by go_num, rfl, by have := HGH.out; have := HI.out; have := HMN.out; omega, Lib.hid (E4.out.edit 0 (.int .i64 1) 1 0 rfl), HR5, Lib.hid (HS.out.ends HI.out HZ.out HNC.out)⟩
      · -- dropped
        have HZ := Lib.hid hz
        rw [hz] at cm
        have e1 := HE.out.re.cell 1 rfl
        have f1 := HE.out.re.free 1
        have hd8 : (c.d : Int) ≤ 8192 := by have := HS.out.le; have := HLE.out; have := HI.out; omega
        have hd0 : (0 : Int) ≤ (c.d : Int) := by omega
        clear hz
        go_wp2
        go_roundg (mn - (i + 1))
        case measure => have := HGH.out; have := HI.out; have := HMN.out; omega
        case rel => exact ⟨i + 1, ta1, tc1, rest, la, lc, aa, ac, L, ⟨c.k, c.d + 1, c.a⟩, by go_num, rfl, by have := HGH.out; have := HI.out; have := HMN.out; omega, Lib.hid (HE.out.edit 1 _ _ _ rfl), HR, Lib.hid (HS.out.drop HI.out HZ.out)⟩
      · -- added
        obtain ⟨u, r, rfl⟩ := HS.out.some_ HI.out (by rw [hz]; decide)
        have HZ := Lib.hid hz
        rw [hz] at cm
        have a0 := HE.out.ra.cell 0 rfl
        obtain ⟨bt, ot, hta, ct⟩ := (HR.out.below HE.out.below).at_ (j := 0) (by simp)
        subst hta
        have ct0 : wr.cell? ⟨bt, ot, none⟩ = some (.int .i32 u) := by simpa using ct
        obtain ⟨an, han⟩ : ∃ n, c.a.length = n := ⟨_, rfl⟩
        have HAN := Lib.hid han
        rw [han] at a0
        have E4 := Lib.hid (HE.out.on ((Below.refl wr.heap.size wr).alloc (Nat.le_refl _) (.cells #[.int .i32 u] 21)))
        have E5 := Lib.hid (E4.out.on (below_drewN (wr.alloc (.cells #[.int .i32 u] 21)) 1))
        have H48 := Lib.hid (show (c.a.length + 1) * (4 + 1) ≤ 140737488355328 by have := HS.out.le; have := HLE.out; have := HI.out; omega)
        have HR1 := Lib.hid (show an + 1 = c.a.length + 1 by rw [han])
        have HOG := Lib.hid (show OwnG runeK 21 ((wr.alloc (.cells #[.int .i32 u] 21)).drewN 1) W3.heap.size (.slice aa an ac) c.a from han ▸ E5.out.oa.gen)
        have a0b := E4.out.ra.cell 0 rfl
        rw [han] at a0b
        have hlp : (0 : Int) < ((u :: r).length : Int) := by rw [List.length_cons]; omega
        have hlp2 : (0 : Int) < (r.length : Int) + 1 := by omega
        have hlp3 : 0 < r.length + 1 := by omega
        clear hz han ct
        go_wp2_with fail
        go_region_law ((refine wp_appG runeK Tryd.underlying22 infoRz rfl _ _ rfl W3.heap.size (.slice aa an ac) c.a rfl HOG.out _ 1 1 [u] rfl (oneG _ _ trivial _ _ rfl) H48.out E5.out.size (an + 1) HR1.out ?_); intro a6 c6 w6 ho6 hg6; have EM := Lib.hid (EB.more (A' := c.a ++ [u]) (aa' := a6) (ac' := c6) E5.out (HAN.out ▸ hg6) (by have := ho6.rune; rwa [show (c.a ++ [u]).length = an + 1 by rw [List.length_append, HAN.out]; rfl])); have RA := Lib.hid (E5.out.ra.grown (HAN.out ▸ hg6) (fun e => by have h1 := E5.out.oa.grown ba e.symm; have h2 := E5.out.lt; omega)); have h0 := RA.out.cell 0 rfl; have hf0 := RA.out.free 0; clear ho6 hg6)
        all_goals
          go_wp2_with (refine wl_tail rfl _ rfl (some ⟨bt, ot, none⟩) r.length tc1 u r rfl HR.out ?_; intro ta5 tc5 hr5; have HR5 := Lib.hid hr5; clear hr5)
          go_roundg (mn - (i + 1))
          case measure => have := HGH.out; have := HI.out; have := HMN.out; omega
          case rel => exact ⟨i + 1, ta5, tc5, r, la, lc, a6, c6, L, ⟨c.k, c.d, c.a ++ [u]⟩, by go_num, rfl, by have := HGH.out; have := HI.out; have := HMN.out; omega, Lib.hid (by have := EM.out; rwa [show (c.a ++ [u]).length = an + 1 by rw [List.length_append, HAN.out]; rfl] at this), HR5, Lib.hid (HS.out.add HI.out HZ.out)⟩
    · have hib : decide (i < mn) = false := by simp; omega
      have HIE := Lib.hid (show i = ms.length by have := HMN.out; omega)
      have hcur : L ++ [ev c] = (eds ms tg ⟨0, 0, []⟩).map ev := by
        have := HS.out.sum
        rw [HIE.out, List.drop_length, eds] at this
        exact this
      by_cases hz : mn = 0
      · have z1 : decide (0 < mn) = false := by simp [hz]
        have z2 : decide ((0 : Int) < (mn : Int)) = false := by simp [hz]
        have hms : ms = [] := List.length_eq_zero_iff.1 (by rw [HMN.out]; exact hz)
        have hL0 : L = [] := List.length_eq_zero_iff.1 (by have := HS.out.le; have := HIE.out; have := HMN.out; omega)
        subst hL0
        have HF := Lib.hid (show (edits ms tg).map ev = [] by unfold edits; rw [if_pos hms]; rfl)
        have b0 := HE.out.rl.cell 0 rfl
        clear hz hcur hms
        go_wp2
        go_ret
        rw [HF.out]
        exact ⟨la, lc, W3.heap.size, rfl, HE.out.ol, HB3.out.size, HE.out.below⟩
      · have z1 : decide (0 < mn) = true := by simp; omega
        have z2 : decide ((0 : Int) < (mn : Int)) = true := by simp; omega
        have HF := Lib.hid (show (edits ms tg).map ev = L ++ [⟨c.k, c.d, txt c.a⟩] by
          unfold edits
          rw [if_neg (fun h => hz (by rw [← HMN.out, h]; rfl)), ← hcur]; rfl)
        have END := Lib.hid (end_any w W3.heap.size w.heap.size be ba la lc aa ac L c.k c.d c.a wr HE.out HS.out.okA (by have := HS.out.le; have := HLE.out; have := HIE.out; omega) (by have := HS.out.le; have := HLE.out; have := HIE.out; omega))
        clear hz hcur
        go_wp2_with (go_at_call 38; (refine END.out.mono ?_); rintro en w4 ⟨rfl, la4, lc4, hE4⟩; have E4 := Lib.hid hE4; have b0 := E4.out.rl.cell 0 rfl; clear hE4)
        go_ret
        rw [HF.out]
        exact ⟨la4, lc4, W3.heap.size, by rw [List.length_append]; rfl, E4.out.ol, HB3.out.size, E4.out.below⟩
#print axioms edits_any
end Go.Proofs.YtbfaaphijgmabaaDoor
