/-
  The finder made.
-/
import Derived.Test.YtfoalaoanpbmeaaDoorGrp6
import Derived.Maps.OwnSet
import Derived.Maps.OwnOps
import Derived.Deep.CutRange
namespace Go.Proofs.YtfoalaoanpbmeaaDoor
open Go.RowKit Go.Maps My

/-- Four boxes made, the last two in either order. -/
theorem four_boxes (w : World) (va vb vx vy : Value) (ta tb tx ty : TypeId) :
    let W := (((w.alloc (.cells #[va] ta)).alloc (.cells #[vb] tb)).alloc (.cells #[vx] tx)).alloc (.cells #[vy] ty)
    W.cell? ⟨w.heap.size, 0, none⟩ = some va ∧ W.cell? ⟨w.heap.size + 1, 0, none⟩ = some vb ∧ W.cell? ⟨w.heap.size + 1 + 1, 0, none⟩ = some vx ∧ W.cell? ⟨w.heap.size + 1 + 1 + 1, 0, none⟩ = some vy ∧ Below w.heap.size w W := by
  intro W
  have s1 : (w.alloc (.cells #[va] ta)).heap.size = w.heap.size + 1 := by simp
  have s2 : ((w.alloc (.cells #[va] ta)).alloc (.cells #[vb] tb)).heap.size = w.heap.size + 1 + 1 := by simp
  have s3 : (((w.alloc (.cells #[va] ta)).alloc (.cells #[vb] tb)).alloc (.cells #[vx] tx)).heap.size = w.heap.size + 1 + 1 + 1 := by simp
  have r1 := RowAt.new w ta [va]
  have r2 := RowAt.new (w.alloc (.cells #[va] ta)) tb [vb]
  have r3 := RowAt.new ((w.alloc (.cells #[va] ta)).alloc (.cells #[vb] tb)) tx [vx]
  have r4 := RowAt.new (((w.alloc (.cells #[va] ta)).alloc (.cells #[vb] tb)).alloc (.cells #[vx] tx)) ty [vy]
  have b2 : Below (w.alloc (.cells #[va] ta)).heap.size (w.alloc (.cells #[va] ta)) ((w.alloc (.cells #[va] ta)).alloc (.cells #[vb] tb)) := (Below.refl _ _).alloc (Nat.le_refl _) _
  have b3 : Below ((w.alloc (.cells #[va] ta)).alloc (.cells #[vb] tb)).heap.size ((w.alloc (.cells #[va] ta)).alloc (.cells #[vb] tb)) (((w.alloc (.cells #[va] ta)).alloc (.cells #[vb] tb)).alloc (.cells #[vx] tx)) := (Below.refl _ _).alloc (Nat.le_refl _) _
  have b4 : Below (((w.alloc (.cells #[va] ta)).alloc (.cells #[vb] tb)).alloc (.cells #[vx] tx)).heap.size (((w.alloc (.cells #[va] ta)).alloc (.cells #[vb] tb)).alloc (.cells #[vx] tx)) W := (Below.refl _ _).alloc (Nat.le_refl _) _
  rw [s1] at r2
  rw [s2] at r3
  rw [s3] at r4
  exact ⟨(((r1.below b2).below b3).below b4).cell 0 rfl, ((r2.below b3).below b4).cell 0 rfl, (r3.below b4).cell 0 rfl, r4.cell 0 rfl, ((((Below.refl _ _).alloc (Nat.le_refl _) _).alloc (by simp) _).alloc (by simp; omega) _).alloc (by simp; omega) _⟩
abbrev nextV (pf pt pn pm : Nat) : Value := .func (.func 94) #[] #[PtB pf, PtB pt, PtB pn, PtB pm]
theorem cell_other {w : World} {b o : Nat} {v : Value} (h : w.cell? ⟨b, o, none⟩ = some v) (u : Value) {a : Addr} (hne : a.block ≠ b) : (w.setCell a u).cell? ⟨b, o, none⟩ = some v := by
  rw [World.cell?_setCell_other]
  · exact h
  · intro e; exact hne (by rw [e])
theorem cell_same {w w' : World} {b o : Nat} (h : w'.heap[b]? = w.heap[b]?) : w'.cell? ⟨b, o, none⟩ = w.cell? ⟨b, o, none⟩ := by
  simp only [World.cell?, h]
theorem run_store_fn (P : Program) (w : World) (a : Addr) (f : Fn) (x y : Array Value) (m : Mode) : (store a (.func f x y) m).run P w = stored P w a (.func f x y) m := run_store P w a _ m rfl
abbrev finC (n m low : Int) (fa : Option Addr) (fn fc : Nat) (nv : Value) (kb : Nat) (ga : Option Addr) (gn gc : Nat) (from_ : Int) : List Value :=
  [.int .i64 n, .int .i64 m, .int .i64 low, .slice fa fn fc, nv, .map (some kb), .slice ga gn gc, .int .i64 from_]
/-- The finder's boxes, as they are made. -/
abbrev finW (w : World) (n m : Nat) (pn pm pa pb g : Nat) : World :=
  (((w.alloc (.map #[] 0)).alloc (.cells #[.int .i64 n, .int .i64 m, .int .i64 0, .slice none 0 0, .nilFunc, .map (some w.heap.size), .slice none 0 0, .int .i64 0] 150)).alloc (.cells #[PtB g] 128)).alloc (.cells #[tryV pn pm pa pb] 151)
theorem fin_boxes (w : World) (n m pn pm pa pb g pf pt : Nat) (hg : w.heap.size + 1 = g) (hpf : g + 1 = pf) (hpt : pf + 1 = pt) :
    RowAt (finW w n m pn pm pa pb g) g 150 (finC n m 0 none 0 0 .nilFunc w.heap.size none 0 0 0) ∧ (finW w n m pn pm pa pb g).cell? ⟨pf, 0, none⟩ = some (PtB g) ∧ (finW w n m pn pm pa pb g).cell? ⟨pt, 0, none⟩ = some (tryV pn pm pa pb) ∧
    (finW w n m pn pm pa pb g).heap[w.heap.size]? = some (.map #[] 0) ∧ Below w.heap.size w (finW w n m pn pm pa pb g) := by
  subst hg hpf hpt
  have s1 : (w.alloc (.map #[] 0)).heap.size = w.heap.size + 1 := by simp
  obtain ⟨w1, h1⟩ : ∃ x, w.alloc (.map #[] 0) = x := ⟨_, rfl⟩
  have m1 : w1.heap[w.heap.size]? = some (.map #[] 0) := by rw [← h1]; exact Array.getElem?_push_size
  have b1 : Below w.heap.size w w1 := by rw [← h1]; exact (Below.refl _ _).alloc (Nat.le_refl _) _
  rw [h1] at s1
  unfold finW
  rw [h1, ← s1]
  clear h1
  obtain ⟨w2, h2⟩ : ∃ x, w1.alloc (.cells #[.int .i64 (n : Int), .int .i64 (m : Int), .int .i64 0, .slice none 0 0, .nilFunc, .map (some w.heap.size), .slice none 0 0, .int .i64 0] 150) = x := ⟨_, rfl⟩
  have r2 : RowAt w2 w1.heap.size 150 (finC n m 0 none 0 0 .nilFunc w.heap.size none 0 0 0) := by rw [← h2]; exact RowAt.new _ _ _
  have s2 : w2.heap.size = w1.heap.size + 1 := by rw [← h2]; simp
  have b2 : Below w1.heap.size w1 w2 := by rw [← h2]; exact (Below.refl _ _).alloc (Nat.le_refl _) _
  rw [h2, ← s2]
  clear h2
  obtain ⟨w3, h3⟩ : ∃ x, w2.alloc (.cells #[PtB w1.heap.size] 128) = x := ⟨_, rfl⟩
  have r3 : RowAt w3 w2.heap.size 128 [PtB w1.heap.size] := by rw [← h3]; exact RowAt.new _ _ _
  have s3 : w3.heap.size = w2.heap.size + 1 := by rw [← h3]; simp
  have b3 : Below w2.heap.size w2 w3 := by rw [← h3]; exact (Below.refl _ _).alloc (Nat.le_refl _) _
  rw [h3, ← s3]
  clear h3
  have b4 : Below w3.heap.size w3 (w3.alloc (.cells #[tryV pn pm pa pb] 151)) := (Below.refl _ _).alloc (Nat.le_refl _) _
  exact ⟨(r2.below b3).below b4, (r3.below b4).cell 0 rfl, (RowAt.new w3 _ [tryV pn pm pa pb]).cell 0 rfl, by
    rw [b4.block _ (by omega), b3.block _ (by omega), b2.block _ (by omega)]; exact m1, ((b1.trans (b2.mono (by omega))).trans (b3.mono (by omega))).trans (b4.mono (by omega))⟩
/-- A finder, as it lies. -/
structure FinAt (w : World) (g pf pt pn pm pa pb kb : Nat) (A B : List Int) (aa ab : Option Addr) (ca cb : Nat) (fa : Option Addr) (fn fc : Nat) (ga : Option Addr) (gn gc : Nat) (fr : Int) : Prop where
  row : RowAt w g 150 (finC A.length B.length 0 fa fn fc (nextV pf pt pn pm) kb ga gn gc fr)
  caught : Caught w pn pm pa pb A B aa ab ca cb
  f : w.cell? ⟨pf, 0, none⟩ = some (PtB g)
  t : w.cell? ⟨pt, 0, none⟩ = some (tryV pn pm pa pb)
  ne : pf ≠ g ∧ pt ≠ g ∧ pn ≠ g ∧ pm ≠ g ∧ pa ≠ g ∧ pb ≠ g ∧ kb ≠ g ∧ pf ≠ kb ∧ pt ≠ kb ∧ pn ≠ kb ∧ pm ≠ kb ∧ pa ≠ kb ∧ pb ≠ kb
/-- What it is when it is new. -/
def NewIs (A B : List Int) (aa ab : Option Addr) (ca cb : Nat) (w : World) (e : Ending) (w' : World) : Prop := ∃ (g pf pt pn pm pa pb kb : Nat) (fa : Option Addr) (r : Int), e = .returned (PtB g) ∧
  FinAt w' g pf pt pn pm pa pb kb A B aa ab ca cb fa 1 1 none 0 0 0 ∧ Lst w' fa 1 1 [r] ∧ Slid (eq2 A B) A.length B.length 0 0 r ∧ w'.heap[kb]? = some (.map #[] 0) ∧ (w.heap.size ≤ g ∧ w.heap.size ≤ kb ∧ g < w'.heap.size ∧ kb < w'.heap.size) ∧ Below w.heap.size w w'
set_option maxRecDepth 100000 in
set_option maxHeartbeats 4000000 in
theorem newFinder_any (A B : List Int) (aa ab : Option Addr) (ca cb : Nat) (w : World) (ha : Runs w aa A.length ca A) (hb : Runs w ab B.length cb B) (hA : A.length ≤ 4096) (hB : B.length ≤ 4096) :
    Calls Tryd.prog 75 #[.slice aa A.length ca, .slice ab B.length cb] w (NewIs A B aa ab ca cb w) := by
  obtain ⟨n, hn⟩ : ∃ n, A.length = n := ⟨_, rfl⟩
  obtain ⟨m, hm⟩ : ∃ m, B.length = m := ⟨_, rfl⟩
  have HA := Lib.hid ha
  have HB := Lib.hid hb
  rw [hn] at HA hA
  rw [hm] at HB hB
  rw [hn, hm]
  have HN := Lib.hid hn
  have HM := Lib.hid hm
  have HAL := Lib.hid hA
  have HBL := Lib.hid hB
  have hmm := @run_makeMap Tryd.prog
  clear ha hb hA hB hn hm
  go_enter Tryd.func75, Tryd.ntmps75
  go_wp2_with fail
  go_cut [5, 6] from 9 to 12 (fun v5 v6 W => ∃ pn pm, v5 = PtB pn ∧ v6 = PtB pm ∧ Hid (Caught W pn pm w.heap.size (w.heap.size + 1) A B aa ab ca cb) ∧ Hid (Below w.heap.size w W))
  case first =>
    have F1 := Lib.hid (four_boxes w (.slice aa n ca) (.slice ab m cb) (.int .i64 n) (.int .i64 m) 50 50 3 3)
    have F2 := Lib.hid (four_boxes w (.slice aa n ca) (.slice ab m cb) (.int .i64 m) (.int .i64 n) 50 50 3 3)
    go_region
    · go_wp2_with fail
      go_meet
      obtain ⟨c1, c2, c3, c4, hb⟩ := F1.out
      exact ⟨_, _, rfl, rfl, Lib.hid ⟨by rw [HN.out]; exact c3, by rw [HM.out]; exact c4, by rw [HN.out]; exact c1, by rw [HM.out]; exact c2, by rw [HN.out]; exact HA.out.below hb.drew, by rw [HM.out]; exact HB.out.below hb.drew⟩, Lib.hid hb.drew⟩
    · go_wp2_with fail
      go_meet
      obtain ⟨c1, c2, c3, c4, hb⟩ := F2.out
      exact ⟨_, _, rfl, rfl, Lib.hid ⟨by rw [HN.out]; exact c4, by rw [HM.out]; exact c3, by rw [HN.out]; exact c1, by rw [HM.out]; exact c2, by rw [HN.out]; exact HA.out.below hb.drew, by rw [HM.out]; exact HB.out.below hb.drew⟩, Lib.hid hb.drew⟩
  case rest =>
    obtain ⟨pn, pm, rfl, rfl, HC, HBc⟩ := hcut
    have k0 := HC.out.n
    have k1 := HC.out.m
    rw [HN.out] at k0
    rw [HM.out] at k1
    obtain ⟨g, hg⟩ : ∃ g, wc.heap.size + 1 = g := ⟨_, rfl⟩
    obtain ⟨pf, hpf⟩ : ∃ p, g + 1 = p := ⟨_, rfl⟩
    obtain ⟨pt, hpt⟩ : ∃ p, pf + 1 = p := ⟨_, rfl⟩
    obtain ⟨pb, hpb⟩ : ∃ p, w.heap.size + 1 = p := ⟨_, rfl⟩
    have hsf := fun (W : World) (A : Addr) (f : Fn) (x y : Array Value) (md : Mode) => run_store_fn Tryd.prog W A f x y md
    rw [hpb] at HC
    have HW := Lib.hid (fin_boxes wc n m pn pm w.heap.size pb g pf pt hg hpf hpt)
    go_wp2_with fail
    clear k0 k1
    obtain ⟨W4, hW4⟩ : ∃ W, finW wc n m pn pm w.heap.size pb g = W := ⟨_, rfl⟩
    rw [hW4] at HW
    change Code.wp _ _ _ _ (finW wc n m pn pm w.heap.size pb g)
    rw [hW4]
    clear hW4
    have HC4 := Lib.hid (HC.out.below HW.out.2.2.2.2)
    have TR := Lib.hid (fun W (hb : Below W4.heap.size W4 W) => try_any A B aa ab ca cb pn pm w.heap.size pb 0 0 W (HC4.out.below hb) (by rw [HN.out]; exact HAL.out) (by rw [HM.out]; exact HBL.out) ⟨by omega, by omega, by omega, by omega⟩)
    have k0 := HW.out.2.1
    have k1 := HW.out.2.2.1
    go_region_held3 (fun W => W.cell? ⟨pf, 0, none⟩ = some (PtB g) ∧ W.cell? ⟨pt, 0, none⟩ = some (tryV pn pm w.heap.size pb)) (first | exact ⟨k0, k1⟩ | exact ⟨k2, k3⟩ | exact ⟨k4, k5⟩ | exact ⟨k6, k7⟩ | exact ⟨k8, k9⟩) (first
      | (go_at_call 93; (refine (TR.out _ (below_drewN W4 1)).mono ?_); rintro e w5 ⟨r, rfl, hsl, hb5⟩
         have hb5' : Below W4.heap.size W4 w5 := (below_drewN W4 1).trans hb5
         have k2 := cell_below k0 hb5'
         have k3 := cell_below k1 hb5'
         have k4 := cell_below k2 ((Below.refl w5.heap.size w5).alloc (Nat.le_refl _) (.cells #[.int .i32 r] 21))
         have k5 := cell_below k3 ((Below.refl w5.heap.size w5).alloc (Nat.le_refl _) (.cells #[.int .i32 r] 21))
         have R6 := Lib.hid (RowAt.below (RowAt.below HW.out.1 hb5') ((Below.refl w5.heap.size w5).alloc (Nat.le_refl _) (.cells #[.int .i32 r] 21)))
         have R7 := Lib.hid (R6.out.set 2 (.int .i64 0))
         have c2 := R6.out.cell 2 rfl
         have f2 := R6.out.free 2
         have c3 := R7.out.cell 3 rfl
         have f3 := R7.out.free 3
         have c3' := R6.out.cell 3 rfl
         have f3' := R6.out.free 3
         have HB5 := Lib.hid hb5'
         have SL := Lib.hid hsl
         have k6 := cell_other (cell_other k4 (.int .i64 0) (a := ⟨g, 2, none⟩) (by show g ≠ pf; omega)) (.slice (some ⟨w5.heap.size, 0, none⟩) 1 1) (a := ⟨g, 3, none⟩) (by show g ≠ pf; omega)
         have k7 := cell_other (cell_other k5 (.int .i64 0) (a := ⟨g, 2, none⟩) (by show g ≠ pt; omega)) (.slice (some ⟨w5.heap.size, 0, none⟩) 1 1) (a := ⟨g, 3, none⟩) (by show g ≠ pt; omega)
         clear hb5 hb5' hsl))
    obtain ⟨W8, hW8⟩ : ∃ W, (((w5.alloc (.cells #[.int .i32 r] 21)).setCell ⟨g, 2, none⟩ (.int .i64 0)).setCell ⟨g, 3, none⟩ (.slice (some ⟨w5.heap.size, 0, none⟩) 1 1)) = W := ⟨_, rfl⟩
    have R8 := Lib.hid (show RowAt W8 g 150 (finC n m 0 (some ⟨w5.heap.size, 0, none⟩) 1 1 .nilFunc wc.heap.size none 0 0 0) by rw [← hW8]; exact R7.out.set 3 _)
    have HS := Lib.hid (show w.heap.size < wc.heap.size ∧ wc.heap.size < g ∧ pn < wc.heap.size ∧ pm < wc.heap.size ∧ pb < wc.heap.size from by
      have h1 : pn < wc.heap.size := World.block_lt_of_cell? _ _ HC.out.n; have h2 : pm < wc.heap.size := World.block_lt_of_cell? _ _ HC.out.m; have h3 : pb < wc.heap.size := World.block_lt_of_cell? _ _ HC.out.b
      exact ⟨by omega, by omega, h1, h2, h3⟩)
    have HP := Lib.hid (show g + 1 = pf ∧ pf + 1 = pt ∧ wc.heap.size + 1 = g from ⟨hpf, hpt, hg⟩)
    have HB6 := Lib.hid (HB5.out.alloc (B := W4.heap.size) HB5.out.size (.cells #[.int .i32 r] 21))
    have X8 := Lib.hid (show ∀ b, b < W4.heap.size → b ≠ g → W8.heap[b]? = W4.heap[b]? from fun b hb hne => by
      rw [← hW8, Below.heap_setCell _ _ _ _ (by exact hne), Below.heap_setCell _ _ _ _ (by exact hne)]
      exact HB6.out.block b hb)
    have D8 := Lib.hid (show RowAt W8 w5.heap.size 21 [.int .i32 r] by
      have h5 := HB5.out.size
      have h6 := HW.out.1.lt
      rw [← hW8]
      exact ((RowAt.new w5 21 [.int .i32 r]).other (show w5.heap.size ≠ g by omega) _).other (show w5.heap.size ≠ g by omega) _)
    have B8 := Lib.hid (show Below w.heap.size w W8 by
      rw [← hW8]
      have h1 := HS.out
      have h2 := ((HBc.out.trans (HW.out.2.2.2.2.mono (by omega))).trans (HB6.out.mono (by have := HW.out.2.2.2.2.size; omega)))
      exact (h2.setCell (by show w.heap.size ≤ g; omega) _).setCell (by show w.heap.size ≤ g; omega) _)
    have C9 := Lib.hid (show Caught (W8.setCell ⟨g, 4, none⟩ (nextV pf pt pn pm)) pn pm w.heap.size pb A B aa ab ca cb by
      have h1 := HS.out; have h2 := HP.out; have h6 := HW.out.1.lt
      have hb : Below w.heap.size w (W8.setCell ⟨g, 4, none⟩ (nextV pf pt pn pm)) := B8.out.setCell (by show w.heap.size ≤ g; omega) _
      refine ⟨cell_other ((cell_same (X8.out pn (by omega) (by omega))).trans HC4.out.n) _ (by show g ≠ pn; omega), cell_other ((cell_same (X8.out pm (by omega) (by omega))).trans HC4.out.m) _ (by show g ≠ pm; omega), cell_other ((cell_same (X8.out w.heap.size (by omega) (by omega))).trans HC4.out.a) _ (by show g ≠ w.heap.size; omega), cell_other ((cell_same (X8.out pb (by omega) (by omega))).trans HC4.out.b) _ (by show g ≠ pb; omega), ?_, ?_⟩
      · rw [HN.out]; exact HA.out.below hb
      · rw [HM.out]; exact HB.out.below hb)
    rw [hW8] at k6 k7
    rw [hW8]
    clear k0 k1 k2 k3 k4 k5 c2 f2 c3 f3 c3' f3' R6 R7 hW8
    have c4 := R8.out.cell 4 rfl
    have f4 := R8.out.free 4
    go_wp2
    go_ret
    refine ⟨g, pf, pt, pn, pm, w.heap.size, pb, wc.heap.size, some ⟨w5.heap.size, 0, none⟩, r, rfl, ⟨?_, ?_, ?_, ?_, ?_⟩, ?_, ?_, ?_, ?_, ?_⟩
    · have := R8.out.set 4 (nextV pf pt pn pm)
      rw [HN.out, HM.out]
      exact this
    · exact C9.out
    · exact cell_other k6 _ (by show g ≠ pf; omega)
    · exact cell_other k7 _ (by show g ≠ pt; omega)
    · have h1 := HS.out; have h2 := HP.out
      exact ⟨by omega, by omega, by omega, by omega, by omega, by omega, by omega, by omega, by omega, by omega, by omega, by omega, by omega⟩
    · have h5 := HB5.out.size; have h6 := HW.out.1.lt
      have d9 := D8.out.other (show w5.heap.size ≠ g by omega) (a := ⟨g, 4, none⟩) (nextV pf pt pn pm)
      have d := d9.cell 0 rfl
      refine ⟨fun b off e => (by simp only [Option.some.injEq, Addr.mk.injEq, and_true] at e; obtain ⟨rfl, _⟩ := e; exact ⟨_, _, d9⟩), ⟨rfl, Nat.le_refl _, by omega, .inr ⟨_, _, rfl, fun j hj => ?_⟩⟩, fun i => ?_, by omega⟩
      · obtain rfl : j = 0 := by omega
        exact d
      · have := SL.out
        have h1 := this.1; have h2 := this.2.1; have h3 := HAL.out; have h4 := HN.out
        cases i with
        | zero => show -1 ≤ r ∧ r ≤ 8192; omega
        | succ i => exact ⟨by simp, by simp⟩
    · exact SL.out
    · have h1 := HS.out; have h2 := HP.out; have h6 := HW.out.1.lt
      rw [Below.heap_setCell _ _ _ _ (by show wc.heap.size ≠ g; omega), X8.out _ (by omega) (by omega)]
      exact HW.out.2.2.2.1
    · have h1 := HS.out; have h2 := HP.out; have h3 := R8.out.lt
      have h4 : (W8.setCell ⟨g, 4, none⟩ (nextV pf pt pn pm)).heap.size = W8.heap.size := by simp [World.setCell]
      rw [h4]
      exact ⟨by omega, by omega, by omega, by omega⟩
    · have h1 := HS.out
      exact B8.out.setCell (by show w.heap.size ≤ g; omega) _
#print axioms newFinder_any
end Go.Proofs.YtfoalaoanpbmeaaDoor
