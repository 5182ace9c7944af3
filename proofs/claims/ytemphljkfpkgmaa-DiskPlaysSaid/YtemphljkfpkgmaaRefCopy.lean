/-
  The reference's Copy walked: all of its memory is its own.
-/
import Derived.Test.YtemphljkfpkgmaaRfDiskAll
import Derived.Test.YtemphljkfpkgmaaHold
import Derived.Test.YtemphljkfpkgmaaDkNamesAll
import Derived.Deep.LoopGhost
namespace Go.Proofs.Ytemphljkfpkgmaa
open Go.RowKit

section
variable {w w' : World} {base : Nat} {L : List Hold} {V V' : RVal} {S S' : DS} {g0 : Nat}
theorem Holds.mono {base' : Nat} (H : Holds w base L) (hb : base' ≤ base) : Holds w base' L := ⟨fun h hm => rows_mono (H.own h hm) hb, H.two⟩
theorem Holds.alike (H : Holds w base L) (h : ∀ k, base ≤ k → k < w.heap.size → w'.heap[k]? = w.heap[k]?) : Holds w' base L := ⟨fun x hx => by
  obtain ⟨h1, h2⟩ := H.own x hx
  refine ⟨h1, ?_⟩
  rcases h2 with h2 | ⟨g, cap, cur, hv, hg, hh, r⟩
  · exact .inl h2
  · refine .inr ⟨g, cap, cur, hv, hg, ?_, r⟩
    have hlt : g < w.heap.size := by
      rcases Nat.lt_or_ge g w.heap.size with h | h
      · exact h
      · rw [Array.getElem?_eq_none h] at hh; cases hh
    rw [h g hg hlt]; exact hh, H.two⟩
theorem Holds.setLow (H : Holds w base L) (hg : g0 < base) (o : Nat) (u : Value) : Holds (w.setCell ⟨g0, o, none⟩ u) base L := H.alike fun k hk _ => Below.heap_setCell _ _ _ _ (by show k ≠ g0; omega)
theorem Holds.grownLow (H : Holds w base L) (hg : g0 < base) (h : w.grownBy w' (some g0)) : Holds w' base L := ⟨fun x hx => World.ownsRow.kept (H.own x hx) h (by
  cases hv : x.v.ownBlock with
  | none => exact .inl rfl
  | some k => exact .inr (fun e => by have e2 := Option.some.inj e; have := (H.lt hx k hv).1; omega)), H.two⟩
/-- A field's copy is stored. -/
theorem step_store {h : Hold} (j : Nat) (HR : RBox w g0 V S) (HH : Holds w base L) (hg0 : g0 < base) (hbase : base ≤ w.heap.size) (hb : Below w.heap.size w w') (ho : h.At w' w.heap.size) (e : (refL V S).set j h.v = refL V' S') :
    RBox (w'.setCell ⟨g0, j, none⟩ h.v) g0 V' S' ∧ Holds (w'.setCell ⟨g0, j, none⟩ h.v) base (h :: L) ∧ RBox w' g0 V S := by
  have h1 := RBox.below HR hb
  refine ⟨?_, (HH.add ho hb hbase).setLow hg0 _ _, h1⟩
  have := RowAt.set h1 j h.v
  rw [e] at this
  exact this
/-- What a disk's parts hold. -/
abbrev partsH (V : RVal) (S : DS) (R : List BRow) : List Hold :=
  hG actK 81 (.slice V.aa V.na V.ca) S.acts :: hG entK 67 (.slice V.ak V.nk V.ck) S.kept :: hG entK 67 (.slice V.an V.nn V.cn) S.now ::
    hG numK 3 (.slice V.ay V.ny V.cy) (S.files.map (·.2)) :: hG rowK 35 (.slice V.af V.nf V.cf) R :: R.map hB
/-- A disk by value, all of it one's own. -/
def RefOwn (w : World) (base : Nat) (V : RVal) (S : DS) : Prop := ∃ R : List BRow, Holds w base (partsH V S R) ∧ R.map (·.l) = S.files.map (·.1)
theorem Holds.gG {α : Type} {K : Kind α} {E : TypeId} {v : Value} {M : List α} (H : Holds w base L) (hok : ∀ x, K.ok x) (hm : hG K E v M ∈ L) : OwnG K E w base v M := ⟨H.own _ hm, fun x _ => hok x⟩
theorem rows_in {R : List BRow} {a : Option Addr} {n c : Nat} {fs : List (List UInt8)} (h : Holds w base L) (h1 : hG rowK 35 (.slice a n c) R ∈ L) (h2 : ∀ x ∈ R, hB x ∈ L) (h3 : R.map (·.l) = fs) : RowsR w a n c fs := by
  refine ⟨R, (h.gG (fun _ => trivial) h1).atG, fun j hj => ?_, h3⟩
  have := h.own _ (h2 _ (gd_mem hj))
  exact Own.isBytes (show Own w base (gd R j).v (gd R j).l from this)
theorem RefOwn.inn (h : RefOwn w base V S) : RefIn w V S := by
  obtain ⟨R, h1, h2⟩ := h
  exact ⟨rows_in h1 (by simp) (fun x hx => by simp only [List.mem_cons, List.mem_map]; exact .inr (.inr (.inr (.inr (.inr ⟨x, hx, rfl⟩))))) h2, (h1.gG (E := 3) (fun _ => trivial) (by simp)).atG, (h1.gG (E := 67) (fun _ => trivial) (by simp)).atG, (h1.gG (E := 67) (fun _ => trivial) (by simp)).atG, (h1.gG (E := 81) (fun _ => trivial) (by simp)).atG⟩
end

theorem take_snoc {fs : List (List UInt8)} {i : Nat} (hi : i < fs.length) : fs.take (i + 1) = fs.take i ++ [fs.getD i []] := by
  rw [List.take_succ_eq_append_getElem hi]
  simp [hi]
/-- One file's copy joins the row. -/
theorem rows_next {w w4 w5 : World} {base : Nat} {R : List BRow} {v v' : Value} {x : BRow} (H : Holds w base (hG rowK 35 v R :: R.map hB)) (hx : Own w4 w.heap.size x.v x.l) (hb : Below w.heap.size w w4) (hbase : base ≤ w.heap.size)
    (hg : (w4.alloc (.cells (rowK.cells x).toArray 35)).grownBy w5 v.ownBlock) (ho : OwnG rowK 35 w5 base v' (R ++ [x])) (ht : Told (w4.alloc (.cells (rowK.cells x).toArray 35)) v v') :
    Holds w5 base (hG rowK 35 v' (R ++ [x]) :: (R ++ [x]).map hB) := by
  have h1 : Holds w4 base (hB x :: hG rowK 35 v R :: R.map hB) := H.add hx hb hbase
  have h2 := h1.below ((Below.refl w4.heap.size w4).alloc (Nat.le_refl _) (.cells (rowK.cells x).toArray 35))
  have h3 := h2.perm (List.Perm.swap _ _ _)
  have h4 := h3.put (h' := hG rowK 35 v' (R ++ [x])) hg ho.1 ht
  refine h4.perm (List.Perm.cons _ ?_)
  rw [List.map_append]
  exact List.perm_append_comm (l₁ := [hB x])
theorem rows_len {R : List BRow} {fs : List (List UInt8)} {i : Nat} (h : R.map (·.l) = fs.take i) (hi : i ≤ fs.length) : R.length = i := by
  have := congrArg List.length h
  rw [List.length_map, List.length_take] at this
  omega
/-- Midway through Copy. -/
structure Mid (w : World) (g1 base : Nat) (S : DS) (W : World) (V : RVal) (L : List Hold) : Prop where
  box : RBox W w.heap.size V S
  zero : RowAt W g1 31 zeroD
  hold : Holds W base L
  below : Below w.heap.size w W
  bas : base ≤ W.heap.size
  lt : w.heap.size < base ∧ g1 < base ∧ g1 ≠ w.heap.size
theorem Mid.store {w W : World} {g1 base : Nat} {S : DS} {V V' : RVal} {L : List Hold} (M : Mid w g1 base S W V L) (j : Nat) (v : Value) (e : (refL V S).set j v = refL V' S) : Mid w g1 base S (W.setCell ⟨w.heap.size, j, none⟩ v) V' L := by
  refine ⟨?_, M.zero.other M.lt.2.2 _, M.hold.setLow M.lt.1 _ _, M.below.setCell (Nat.le_refl _) _, ?_, M.lt⟩
  · have := RowAt.set M.box j v
    rw [e] at this
    exact this
  · have : (W.setCell ⟨w.heap.size, j, none⟩ v).heap.size = W.heap.size := by simp [World.setCell]
    rw [this]; exact M.bas
theorem Mid.made {α : Type} {K : Kind α} {E : TypeId} {A : List α} {v : Value} {w W w7 : World} {g1 base : Nat} {S : DS} {V : RVal} {L : List Hold} {cs : Array Value} (M : Mid w g1 base S W V L) (hg : (W.alloc (.cells cs E)).grownBy w7 (some W.heap.size)) (ho : OwnG K E w7 W.heap.size v A) : Mid w g1 base S w7 V (hG K E v A :: L) := by
  have hb : Below W.heap.size W w7 := ((Below.refl W.heap.size W).alloc (Nat.le_refl _) (.cells cs E)).grown hg (by simp) (fun k hk => by cases hk; exact Nat.le_refl _)
  exact ⟨RBox.below M.box hb, M.zero.below hb, M.hold.add ho.1 hb M.bas, M.below.trans (hb.mono M.below.size), Nat.le_trans M.bas hb.size, M.lt⟩
/-- What Copy hands back. -/
def CopyEnd (w : World) (V : RVal) (S : DS) (e : Ending) (w' : World) : Prop := ∃ V', e = .returned (.agg (refC V' S)) ∧ V'.made = V.made ∧ V'.q = V.q ∧ RefOwn w' w.heap.size V' S ∧ Below w.heap.size w w'
set_option maxRecDepth 100000 in
set_option maxHeartbeats 2000000 in
theorem refCopy_any (V : RVal) (S : DS) (w : World) (h : RefIn w V S) (hok : Inv S) (hfew : Few S 100000) :
    Calls Try.prog 35 #[.agg (refC V S)] w (CopyEnd w V S) := by
  have HI := Lib.hid h
  have HFL := Lib.hid h.files.len
  have HLN := Lib.hid (show ∀ j, ((S.files.map (·.1)).getD j []).length ≤ 1073741824 from fun j => by
    have h1 := Nat.le_trans (file_syn hok j).2 hok.most
    by_cases hj : j < S.files.length
    · rw [files_get _ _ hj]; exact h1
    · rw [List.getD_eq_getElem?_getD, List.getElem?_eq_none (by simpa using hj)]; simp)
  have HF := Lib.hid (show V.nf ≤ 100000 by have := h.files.len; rw [List.length_map] at this; have := hfew.files; omega)
  have HD := Lib.hid (show V.nk ≤ 100000 ∧ V.na ≤ 100000 ∧ V.nn ≤ 100000 by
    have := hfew.dirs; have := h.kept.1; have := h.acts.1; have := h.now.1; have := hok.nowLe hfew.dirs; omega)
  have HNY := Lib.hid (show V.ny = V.nf by obtain ⟨h1, h2, _⟩ := h.lens; omega)
  have hnI : (V.nf : Int) ≤ 100000 := by have := HF.out; omega
  clear h hok hfew
  go_enter Try.func35, Try.ntmps35
  go_wp2_with (first
    | (refine box_row rfl 31 (.tmp 0) (refL V S) rfl rfl ?_; intro w1 hr1 hb1 hs1; have HR := Lib.hid hr1; have HB := Lib.hid hb1; have HS1 := Lib.hid hs1; clear hb1 hr1 hs1)
    | (refine alloc_row rfl 31 zeroD rfl zero_disk ?_; intro w2 hr2 hb2 hs2; have HB2 := Lib.hid (HB.out.trans (hb2.mono HB.out.size)); have HR2 := Lib.hid (RBox.below HR.out hb2); have HZ2 := Lib.hid hr2; have HS2 := Lib.hid hs2; clear hr2 hb2 hs2))
  go_loopg [3, 4] V.nf (fun g v3 v4 W => ∃ (i : Nat) (R : List BRow) (a1 : Option Addr) (c1 : Nat), Below w2.heap.size w2 W ∧ v4 = .int .i64 i ∧ v3 = .slice a1 i c1 ∧ g + i = V.nf ∧ Hid (Holds W w2.heap.size (hG rowK 35 (.slice a1 i c1) R :: R.map hB)) ∧ Hid (R.map (·.l) = (S.files.map (·.1)).take i))
  case atStart => exact ⟨0, [], none, 0, Below.refl _ _, rfl, rfl, rfl, Lib.hid (Holds.nil.add (w := w2) (OwnG.nil (K := rowK)).1 (Below.refl _ _) (Nat.le_refl _)), Lib.hid rfl⟩
  case round =>
    obtain ⟨i, R, a1, c1, hbw, rfl, rfl, hg, HH, HM⟩ := hrel
    have HG := Lib.hid hg
    have HBw := Lib.hid hbw
    have HB3 := Lib.hid (HB2.out.trans (hbw.mono HB2.out.size))
    have hi0 : (0 : Int) ≤ (i : Int) := by omega
    have hiI : (i : Int) ≤ (V.nf : Int) := by omega
    have HRl := Lib.hid (rows_len HM.out (by have := HFL.out; omega))
    by_cases hi : (i : Int) < (V.nf : Int)
    · have hin : i < V.nf := by omega
      have HIn := Lib.hid hin
      have HO1 := Lib.hid (show OwnG rowK 35 wr w2.heap.size (.slice a1 i c1) R from HH.out.gG (fun _ => trivial) List.mem_cons_self)
      have HRw := Lib.hid (RBox.below HR2.out hbw)
      obtain ⟨q0, q1, q2, q3, q4, q5, q6, q7, q8, q9⟩ := RBox.cells HRw.out
      clear q0 q1 q3 q4 q5 q6 q7 q8 q9
      have hb4 := HB3.out.alloc HB3.out.size (.cells #[] 5)
      obtain ⟨k0, k1, k2, k3, k4, k5, k6, k7, k8, k9⟩ := RBox.cells (RBox.below HRw.out ((Below.refl _ wr).alloc (Nat.le_refl _) (.cells #[] 5)))
      clear k0 k1 k3 k4 k5 k6 k7 k8 k9
      obtain ⟨bf, of_, a0, n0, c0, hfo, cf, hby⟩ := (HI.out.below hb4).files.at_ hin
      rw [hfo] at k2 q2
      have HY := Lib.hid hby
      have HT := Lib.hid (take_snoc (show i < (S.files.map (·.1)).length by rw [HFL.out]; exact hin))
      have HN0 := Lib.hid (show ([] : List UInt8).length + n0 ≤ 140737488355328 by have := hby.1; have := HLN.out i; simp; omega)
      have H48 := Lib.hid (show (R.length + 1) * (24 + 1) ≤ 140737488355328 by rw [HRl.out]; have := HF.out; omega)
      have HRL1 := Lib.hid (show i + 1 = R.length + 1 by rw [HRl.out])
      clear hg hin hb4 hfo hby
      go_wp2_with (first
        | ((with_reducible show wpList _ _ _ (⟨some 19, _, _, _, _, _⟩ :: _) _ _); refine app_bytes rfl _ _ rfl wr.heap.size _ [] rfl (own_empty wr) a0 n0 c0 _ rfl HY.out HN0.out (by simp) ?_; intro v4 w4 ho hg4; obtain ⟨a4, n4, c4, rfl, _⟩ := ho.bytes; have HO4 := Lib.hid ho; have HB4 := Lib.hid (((Below.refl wr.heap.size wr).alloc (Nat.le_refl _) (.cells #[] 5)).grown hg4 (by simp) (fun k hk => by cases hk; exact Nat.le_refl _)); clear ho hg4)
        | ((with_reducible show wpList _ _ _ (⟨some 21, _, _, _, _, _⟩ :: _) _ _); go_must (refine appG_told rowK Try.underlying26 rowInfo rfl rfl _ _ rfl w2.heap.size (.slice a1 i c1) R rfl ((HO1.out.below HB4.out).alloc _) _ 1 1 [⟨a4, n4, c4, (S.files.map (·.1)).getD i []⟩] rfl (oneG _ _ trivial _ _ rfl) H48.out (Nat.le_trans (HBw.out.trans (HB4.out.mono HBw.out.size)).size (by simp)) (i + 1) HRL1.out ?_); intro a5 c5 w5 ho5 hg5 ht5))
      go_roundg (V.nf - (i + 1))
      case measure => have := HG.out; have := HIn.out; omega
      case rel => exact ⟨i + 1, R ++ [⟨a4, n4, c4, (S.files.map (·.1)).getD i []⟩], a5, c5, ((HBw.out.trans (HB4.out.mono HBw.out.size)).alloc (HBw.out.trans (HB4.out.mono HBw.out.size)).size _).grown hg5 (Nat.le_trans (HBw.out.trans (HB4.out.mono HBw.out.size)).size (by simp)) (fun k hk => (HO1.out.lt k hk).1), by go_num, rfl, by have := HG.out; have := HIn.out; omega, Lib.hid (rows_next (x := ⟨a4, n4, c4, (S.files.map (·.1)).getD i []⟩) HH.out HO4.out HB4.out HBw.out.size hg5 ho5 ht5), Lib.hid (by rw [List.map_append, HM.out, HT.out]; rfl)⟩
    · have hin : i = V.nf := by omega
      subst hin
      have HM2 := Lib.hid (show R.map (·.l) = S.files.map (·.1) by rw [HM.out, List.take_of_length_le (by rw [HFL.out]; exact Nat.le_refl _)])
      have M5 := Lib.hid (show Mid w w1.heap.size w2.heap.size S wr V _ from ⟨RBox.below HR2.out hbw, RowAt.below HZ2.out hbw, HH.out, HB3.out, hbw.size, by have h1 := HS1.out; have h2 := HS2.out; exact ⟨by omega, by omega, by omega⟩⟩)
      obtain ⟨W6, hW6⟩ : ∃ W6, wr.setCell ⟨w.heap.size, 2, none⟩ (.slice a1 V.nf c1) = W6 := ⟨_, rfl⟩
      have M6 := Lib.hid (hW6 ▸ M5.out.store (V' := { V with af := a1, cf := c1 }) 2 (.slice a1 V.nf c1) rfl)
      have q2 := (RBox.cells M5.out.box).2.2.1
      have f2 := M5.out.box.free 2
      have r3 := (RBox.cells (RBox.below M6.out.box ((Below.refl _ W6).alloc (Nat.le_refl _) (.cells #[] 3)))).2.2.2.1
      have HY := Lib.hid (HI.out.below (M6.out.below.alloc M6.out.below.size (.cells #[] 3))).synced
      have H481 := Lib.hid (show (([] : List Nat).length + V.ny) * (8 + 1) ≤ 140737488355328 by have := HF.out; have := HNY.out; simp; omega)
      have H482 := Lib.hid (show (([] : Dir).length + V.nn) * (24 + 1) ≤ 140737488355328 by have := HD.out; simp; omega)
      have H483 := Lib.hid (show (([] : Dir).length + V.nk) * (24 + 1) ≤ 140737488355328 by have := HD.out; simp; omega)
      have H484 := Lib.hid (show (([] : List DAct).length + V.na) * (40 + 1) ≤ 140737488355328 by have := HD.out; simp; omega)
      clear hg
      go_wp2_with (first
        | ((with_reducible show wpList _ _ _ (⟨some 27, _, _, _, _, _⟩ :: _) _ _); go_must (refine appG numK Try.underlying27 numInfo rfl rfl _ _ rfl W6.heap.size (.slice (some ⟨W6.heap.size, 0, none⟩) 0 0) [] rfl (OwnG.lit rfl _ rfl) V.ay V.ny V.cy (S.files.map (·.2)) rfl HY.out H481.out (by simp) V.ny (by simp) ?_); intro a7 c7 w7 ho7 hg7
           obtain ⟨W7, hW7⟩ : ∃ W7, w7.setCell ⟨w.heap.size, 3, none⟩ (.slice a7 V.ny c7) = W7 := ⟨_, rfl⟩
           have N7 := Lib.hid (M6.out.made hg7 ho7)
           have M7 := Lib.hid (hW7 ▸ N7.out.store (V' := { V with af := a1, cf := c1, ay := a7, cy := c7 }) 3 (.slice a7 V.ny c7) rfl)
           have f3 := N7.out.box.free 3
           have q3 := (RBox.cells N7.out.box).2.2.2.1
           have r4 := (RBox.cells (RBox.below M7.out.box ((Below.refl _ W7).alloc (Nat.le_refl _) (.cells #[] 67)))).2.2.2.2.1
           have HX7 := Lib.hid (HI.out.below (M7.out.below.alloc M7.out.below.size (.cells #[] 67))).now
           clear ho7 hg7)
        | ((with_reducible show wpList _ _ _ (⟨some 32, _, _, _, _, _⟩ :: _) _ _); go_must (refine appG entK Try.underlying28 entInfo rfl rfl _ _ rfl W7.heap.size (.slice (some ⟨W7.heap.size, 0, none⟩) 0 0) [] rfl (OwnG.lit rfl _ rfl) V.an V.nn V.cn S.now rfl HX7.out H482.out (by simp) V.nn (by simp) ?_); intro a8 c8 w8 ho8 hg8
           obtain ⟨W8, hW8⟩ : ∃ W8, w8.setCell ⟨w.heap.size, 4, none⟩ (.slice a8 V.nn c8) = W8 := ⟨_, rfl⟩
           have N8 := Lib.hid (M7.out.made hg8 ho8)
           have M8 := Lib.hid (hW8 ▸ N8.out.store (V' := { V with af := a1, cf := c1, ay := a7, cy := c7, an := a8, cn := c8 }) 4 (.slice a8 V.nn c8) rfl)
           have f4 := N8.out.box.free 4
           have q4 := (RBox.cells N8.out.box).2.2.2.2.1
           have r5 := (RBox.cells (RBox.below M8.out.box ((Below.refl _ W8).alloc (Nat.le_refl _) (.cells #[] 67)))).2.2.2.2.2.1
           have HX8 := Lib.hid (HI.out.below (M8.out.below.alloc M8.out.below.size (.cells #[] 67))).kept
           clear ho8 hg8)
        | ((with_reducible show wpList _ _ _ (⟨some 37, _, _, _, _, _⟩ :: _) _ _); go_must (refine appG entK Try.underlying28 entInfo rfl rfl _ _ rfl W8.heap.size (.slice (some ⟨W8.heap.size, 0, none⟩) 0 0) [] rfl (OwnG.lit rfl _ rfl) V.ak V.nk V.ck S.kept rfl HX8.out H483.out (by simp) V.nk (by simp) ?_); intro a9 c9 w9 ho9 hg9
           obtain ⟨W9, hW9⟩ : ∃ W9, w9.setCell ⟨w.heap.size, 5, none⟩ (.slice a9 V.nk c9) = W9 := ⟨_, rfl⟩
           have N9 := Lib.hid (M8.out.made hg9 ho9)
           have M9 := Lib.hid (hW9 ▸ N9.out.store (V' := { V with af := a1, cf := c1, ay := a7, cy := c7, an := a8, cn := c8, ak := a9, ck := c9 }) 5 (.slice a9 V.nk c9) rfl)
           have f5 := N9.out.box.free 5
           have q5 := (RBox.cells N9.out.box).2.2.2.2.2.1
           have r6 := (RBox.cells (RBox.below M9.out.box ((Below.refl _ W9).alloc (Nat.le_refl _) (.cells #[] 81)))).2.2.2.2.2.2.1
           have HX9 := Lib.hid (HI.out.below (M9.out.below.alloc M9.out.below.size (.cells #[] 81))).acts
           clear ho9 hg9)
        | ((with_reducible show wpList _ _ _ (⟨some 42, _, _, _, _, _⟩ :: _) _ _); go_must (refine appG actK Try.underlying29 actInfo rfl rfl _ _ rfl W9.heap.size (.slice (some ⟨W9.heap.size, 0, none⟩) 0 0) [] rfl (OwnG.lit rfl _ rfl) V.aa V.na V.ca S.acts rfl HX9.out H484.out (by simp) V.na (by simp) ?_); intro a10 c10 w10 ho10 hg10
           obtain ⟨W10, hW10⟩ : ∃ W10, w10.setCell ⟨w.heap.size, 6, none⟩ (.slice a10 V.na c10) = W10 := ⟨_, rfl⟩
           have N10 := Lib.hid (M9.out.made hg10 ho10)
           have M10 := Lib.hid (hW10 ▸ N10.out.store (V' := { V with af := a1, cf := c1, ay := a7, cy := c7, an := a8, cn := c8, ak := a9, ck := c9, aa := a10, ca := c10 }) 6 (.slice a10 V.na c10) rfl)
           have f6 := N10.out.box.free 6
           have q6 := (RBox.cells N10.out.box).2.2.2.2.2.2.1
           clear ho10 hg10)
        | (refine load_row rfl 31 _ rfl w.heap.size _ (refL { V with af := a1, cf := c1, ay := a7, cy := c7, an := a8, cn := c8, ak := a9, ck := c9, aa := a10, ca := c10 } S) _ rfl M10.out.box Try.underlying31 rfl infoD ?_)
        | (refine store_row rfl 31 _ _ rfl w1.heap.size _ zeroD (refL { V with af := a1, cf := c1, ay := a7, cy := c7, an := a8, cn := c8, ak := a9, ck := c9, aa := a10, ca := c10 } S) rfl rfl M10.out.zero rfl infoD (refL_one _ S) ?_; intro w11 hr11 hg11 _))
      refine bodyPost_ret (results_ref1 rfl _ _ w1.heap.size _ S rfl hr11) rfl ⟨_, rfl, rfl, rfl, ⟨R, (M10.out.hold.grownLow M10.out.lt.2.1 hg11).mono ?_, HM2.out⟩, M10.out.below.grown hg11 M10.out.below.size (fun k hk => by cases hk; exact HB.out.size)⟩
      exact Nat.le_of_lt M10.out.lt.1
#print axioms refCopy_any
end Go.Proofs.Ytemphljkfpkgmaa
