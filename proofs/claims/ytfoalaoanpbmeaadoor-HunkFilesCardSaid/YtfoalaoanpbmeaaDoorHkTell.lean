/-
  A hunk told as lines.
-/
import Derived.Test.YtfoalaoanpbmeaaDoorGrp9
import Derived.Test.YtfoalaoanpbmeaaDoorHkShelf
import Derived.Test.YtfoalaoanpbmeaaDoorGrp11
import Derived.Lib.ItoaLen
import Derived.Deep.RegionHeld3
namespace Go.Proofs.YtfoalaoanpbmeaaDoor
open Go.RowKit Go.Lib

/-- What the library's variables hold, here and in every world that stands on this one. -/
def HTabs (w : World) : Prop := ∀ w', Below w.heap.size w w' → Tabs w' ∧ Lib.TabIs Tryd.prog w' "internal/strconv.uint64pow10" .u64 Lib.pow10Tab
theorem HTabs.below {w w' : World} (h : HTabs w) (hb : Below w.heap.size w w') : HTabs w' := fun w'' h' => h w'' (hb.trans (h'.mono hb.size))
theorem HTabs.tabs {w : World} (h : HTabs w) : Tabs w := (h w (Below.refl _ _)).1
theorem below_growH (w : World) (k : Nat) (os : Array Obj) : Below w.heap.size w (Go.Sort.grow (w.drewN k) os) :=
  ⟨rfl, rfl, rfl, by show w.heap.size ≤ (w.heap ++ os).size; rw [Array.size_append]; omega, fun j hj => by
    show (w.heap ++ os)[j]? = w.heap[j]?
    rw [Array.getElem?_append_left hj]⟩
theorem itoaH (n : Nat) (S : ByteArray) (hS : strB (Lib.itoa (n : Nat)) = S) (w : World) (h0 : n ≤ 9000000000) (_ : n ≤ 9000000000) (hT : HTabs w) :
    Calls Tryd.prog 50 #[.int .i64 (n : Nat)] w fun e w' => e = .returned (.string S) ∧ Below w.heap.size w w' := by
  subst hS
  exact (Tryd.strconv_Itoa (n : Nat) (by omega) (by omega) w (hT w (Below.refl _ _)).2).mono fun e w' h => by
    obtain ⟨he, k, os, rfl⟩ := h
    exact ⟨he, below_growH w k os⟩
theorem wreadyH {P : Program} {o : Oper} {a : Act} {w : World} {K : Act → World → Prop} {Q : Exit → Act → World → Prop} (h : o.wp P a w K Q) : o.wp P a w K Q := h
/-- A line, told. -/
def endF (l : Ln) : Ln := if hasSuffix l [10] then trimSuffix l [10] else l ++ [92]
def headF (f t : Nat) : Ln := (([64, 32] ++ itoa (f : Nat)) ++ [32]) ++ itoa (t : Nat)
/-- A hunk, told. -/
def tellF (f t : Nat) (L : List Ln) : List Ln := headF f t :: L.map endF
def BoxFT (w : World) (g f t : Nat) (v : Value) : Prop := w.cell? ⟨g, 0, none⟩ = some (.int .i64 (f : Nat)) ∧ w.cell? ⟨g, 1, none⟩ = some (.int .i64 (t : Nat)) ∧ w.cell? ⟨g, 2, none⟩ = some v
theorem BoxFT.below {w w' : World} {g f t : Nat} {v : Value} (h : BoxFT w g f t v) (hb : Below w.heap.size w w') : BoxFT w' g f t v :=
  ⟨(hb.cell (World.block_lt_of_cell? _ _ h.1)).trans h.1, (hb.cell (World.block_lt_of_cell? _ _ h.2.1)).trans h.2.1, (hb.cell (World.block_lt_of_cell? _ _ h.2.2)).trans h.2.2⟩
theorem cutH (s x : Ln) (q : Bool) (hx : trimSuffix s [10] = x) (hq : hasSuffix s [10] = q) (hs : s.length ≤ 9000000000) (w : World) :
    Calls Tryd.prog 51 #[.string (strB s), .string ⟨#[10]⟩] w fun e w' => e = .returned (.tuple #[.string (strB x), .bool q]) ∧ w' = w := by
  subst hx; subst hq
  have h := Tryd.strings_CutSuffix (strB s) ⟨#[10]⟩ w (by rw [strB_size]; omega)
  rw [strB_list] at h
  exact h
theorem trim_le (l : Ln) : (trimSuffix l [10]).length ≤ l.length := by
  unfold trimSuffix; split
  · rw [List.length_take]; omega
  · exact Nat.le_refl _
set_option maxRecDepth 100000 in
set_option maxHeartbeats 2000000 in
theorem tell_any (f t n c : Nat) (a : Option Addr) (L : List Ln) (w : World) (hf : f ≤ 9000000000) (ht : t ≤ 9000000000) (hn : n ≤ 100000) (hL : AtG lnK w a n c L) (hl : ∀ s ∈ L, s.length ≤ 4000000001) (hT : HTabs w) :
    Calls Tryd.prog 31 #[.agg #[.int .i64 (f : Nat), .int .i64 (t : Nat), .slice a n c]] w (LnsIs (tellF f t L) w) := by
  have HFT : Hid (f ≤ 9000000000 ∧ t ≤ 9000000000) := Lib.hid ⟨hf, ht⟩
  have HT := Lib.hid hT
  have hi : ((itoa (f : Nat)).length ≤ 21 ∧ (itoa (t : Nat)).length ≤ 21) := ⟨itoa_length_le _ (by omega) (by omega), itoa_length_le _ (by omega) (by omega)⟩
  have HL := Lib.hid hL
  have HLL := Lib.hid hl
  have HN : Hid (n ≤ 100000 ∧ L.length = n) := Lib.hid ⟨hn, hL.1⟩
  obtain ⟨w1, hw1⟩ : ∃ W, w.alloc (.cells #[.int .i64 (f : Nat), .int .i64 (t : Nat), .slice a n c] HunkT) = W := ⟨_, rfl⟩
  have e1 : w1.heap[w.heap.size]? = some (.cells #[.int .i64 (f : Nat), .int .i64 (t : Nat), .slice a n c] HunkT (0, 0)) := hw1 ▸ heap_alloc_new w _
  have hbb : Below w.heap.size w w1 := hw1 ▸ (Below.refl _ _).alloc (Nat.le_refl _) _
  have HBb : Hid (Below w.heap.size w w1.drew) := Lib.hid hbb.drew
  have HCb : Hid (BoxFT w1.drew w.heap.size f t (.slice a n c)) := Lib.hid (BoxFT.below (w := w1) ⟨by rw [cell_of_row _ _ _ _ _ _ e1]; rfl, by rw [cell_of_row _ _ _ _ _ _ e1]; rfl, by rw [cell_of_row _ _ _ _ _ _ e1]; rfl⟩ (Below.refl _ _).drew)
  obtain ⟨H, hH⟩ : ∃ H, headF f t = H := ⟨_, rfl⟩
  have HH := Lib.hid hH
  have HHL : Hid (tellF f t L = H :: L.map endF) := Lib.hid (by unfold tellF; rw [hH])
  obtain ⟨S1, hS1⟩ : ∃ S, strB (itoa (f : Nat)) = S := ⟨_, rfl⟩
  obtain ⟨S2, hS2⟩ : ∃ S, strB ([64, 32] ++ itoa (f : Nat)) = S := ⟨_, rfl⟩
  obtain ⟨S3, hS3⟩ : ∃ S, strB (([64, 32] ++ itoa (f : Nat)) ++ [32]) = S := ⟨_, rfl⟩
  obtain ⟨S4, hS4⟩ : ∃ S, strB (itoa (t : Nat)) = S := ⟨_, rfl⟩
  obtain ⟨S5, hS5⟩ : ∃ S, strB H = S := ⟨_, rfl⟩
  have D1 : Hid (∀ W, (Op.stringOp .add ⟨#[64, 32]⟩ S1).run Tryd.prog W = .ok (.string S2) W) := Lib.hid (fun W => by rw [← hS1, ← hS2]; exact run_catL [64, 32] _ (by have := hi.1; simp only [List.length_cons, List.length_nil]; omega) W)
  have D2 : Hid (∀ W, (Op.stringOp .add S2 ⟨#[32]⟩).run Tryd.prog W = .ok (.string S3) W) := Lib.hid (fun W => by rw [← hS2, ← hS3]; exact run_catL _ [32] (by have := hi.1; simp only [List.length_append, List.length_cons, List.length_nil]; omega) W)
  have D3 : Hid (∀ W, (Op.stringOp .add S3 S4).run Tryd.prog W = .ok (.string S5) W) := Lib.hid (fun W => by rw [← hS3, ← hS4, ← hS5, ← hH]; exact run_catL _ _ (by have h1 := hi.1; have h2 := hi.2; simp only [List.length_append, List.length_cons, List.length_nil]; omega) W)
  have ITS1 := Lib.hid hS1
  have ITS4 := Lib.hid hS4
  have HS5 := Lib.hid hS5
  clear hS1 hS2 hS3 hS4 hS5 hi
  clear e1 hbb hL hl hT hf ht hn hH
  go_enter Tryd.func31, Tryd.ntmps31
  go_wp2_with fail
  refine wp_region_held_drew (S := fun W => BoxFT W w.heap.size f t (.slice a n c)) (by kernel_rfl) HCb.out (fun hHeld => ?_)
  generalize w1.drew = wb at HBb HCb hHeld ⊢
  refine wpAnyH_take (i := 0) (oi := ⟨some 8, .fieldAddr 48 (.tmp 1) 0, _, _, _, _⟩) (v := (.pointer (some ⟨w.heap.size, 0, none⟩))) rfl (by kernel_rfl) (by kernel_rfl) (by kernel_rfl) (fun _ _ _ h => h) (Or.inl ⟨by rfl, fun W hW => by go_simp⟩) (by assumption) ?_
  simp only [Act.put, List.setIfInBounds_toArray, List.set_cons_zero, List.set_cons_succ]
  refine wpAnyH_take (i := 1) (oi := ⟨some 9, .load 3 (.tmp 8), _, _, _, _⟩) (v := (.int .i64 (f : Nat))) rfl (by kernel_rfl) (by kernel_rfl) (by kernel_rfl) (fun _ _ _ h => h) (Or.inl ⟨by rfl, fun W hW => by have hcell := hW.1; go_simp⟩) (by assumption) ?_
  simp only [Act.put, List.setIfInBounds_toArray, List.set_cons_zero, List.set_cons_succ]
  refine wpAnyH_take (i := 5) (oi := ⟨some 13, .fieldAddr 48 (.tmp 1) 1, _, _, _, _⟩) (v := (.pointer (some ⟨w.heap.size, 1, none⟩))) rfl (by kernel_rfl) (by kernel_rfl) (by kernel_rfl) (fun _ _ _ h => h) (Or.inl ⟨by rfl, fun W hW => by go_simp⟩) (by assumption) ?_
  simp only [Act.put, List.setIfInBounds_toArray, List.set_cons_zero, List.set_cons_succ]
  refine wpAnyH_take (i := 6) (oi := ⟨some 14, .load 3 (.tmp 13), _, _, _, _⟩) (v := (.int .i64 (t : Nat))) rfl (by kernel_rfl) (by kernel_rfl) (by kernel_rfl) (fun _ _ _ h => h) (Or.inl ⟨by rfl, fun W hW => by have hcell := hW.2.1; go_simp⟩) (by assumption) ?_
  simp only [Act.put, List.setIfInBounds_toArray, List.set_cons_zero, List.set_cons_succ]
  refine wpAnyH_ready (rs := [2]) (by kernel_rfl) (by simp) ?_
  refine AllReadyH.cons (o := ⟨some 10, .call { callee := .value (.func 50), args := #[(.tmp 9)], argTypes := #[3] }, _, _, _, _⟩) rfl (fun K hK => ?_) AllReadyH.nil
  go_simp
  refine (itoaH f S1 ITS1.out wb (by have := HFT.out; omega) (by have := HFT.out; omega) (HT.out.below HBb.out)).mono ?_
  rintro e wc ⟨rfl, hb⟩
  have HBc := Lib.hid (HBb.out.trans (hb.mono HBb.out.size))
  have HCc : Hid (BoxFT wc w.heap.size f t (.slice a n c)) := Lib.hid (HCb.out.below hb)
  clear hb
  refine hK.out _ _ HCc.out (fun hHeld => ?_)
  clear hK K
  refine wpAnyH_take (i := 3) (oi := ⟨some 11, .binOp .add 9 (.const (.string ⟨#[64, 32]⟩)) (.tmp 10) 9, _, _, _, _⟩) (v := (.string S2)) rfl (by kernel_rfl) (by kernel_rfl) (by kernel_rfl) (fun _ _ _ h => h) (Or.inl ⟨by rfl, fun W hW => by have hq := D1.out W; go_simp⟩) (by assumption) ?_
  simp only [Act.put, List.setIfInBounds_toArray, List.set_cons_zero, List.set_cons_succ]
  refine wpAnyH_take (i := 4) (oi := ⟨some 12, .binOp .add 9 (.tmp 11) (.const (.string ⟨#[32]⟩)) 9, _, _, _, _⟩) (v := (.string S3)) rfl (by kernel_rfl) (by kernel_rfl) (by kernel_rfl) (fun _ _ _ h => h) (Or.inl ⟨by rfl, fun W hW => by have hq := D2.out W; go_simp⟩) (by assumption) ?_
  simp only [Act.put, List.setIfInBounds_toArray, List.set_cons_zero, List.set_cons_succ]
  refine wpAnyH_ready (rs := [7]) (by kernel_rfl) (by simp) ?_
  refine AllReadyH.cons (o := ⟨some 15, .call { callee := .value (.func 50), args := #[(.tmp 14)], argTypes := #[3] }, _, _, _, _⟩) rfl (fun K hK => ?_) AllReadyH.nil
  go_simp
  refine (itoaH t S4 ITS4.out wc (by have := HFT.out; omega) (by have := HFT.out; omega) (HT.out.below HBc.out)).mono ?_
  rintro e wd ⟨rfl, hb⟩
  have HBd := Lib.hid (HBc.out.trans (hb.mono HBc.out.size))
  have HCd : Hid (BoxFT wd w.heap.size f t (.slice a n c)) := Lib.hid (HCc.out.below hb)
  clear hb
  refine hK.out _ _ HCd.out (fun hHeld => ?_)
  clear hK K
  refine wpAnyH_take (i := 8) (oi := ⟨some 16, .binOp .add 9 (.tmp 12) (.tmp 15) 9, _, _, _, _⟩) (v := (.string S5)) rfl (by kernel_rfl) (by kernel_rfl) (by kernel_rfl) (fun _ _ _ h => h) (Or.inl ⟨by rfl, fun W hW => by have hq := D3.out W; go_simp⟩) (by assumption) ?_
  simp only [Act.put, List.setIfInBounds_toArray, List.set_cons_zero, List.set_cons_succ]
  refine wpAnyH_ready (rs := [9]) (by kernel_rfl) (by simp) ?_
  refine AllReadyH.cons (o := ⟨some 17, .buildSlice 32 1 #[(0, (.tmp 16))], _, _, _, _⟩) rfl (fun K hK => ?_) AllReadyH.nil
  refine wreadyH ?_
  go_simp
  obtain ⟨we, hwe⟩ : ∃ W, wd.alloc (.cells #[.string S5] 9) = W := ⟨_, rfl⟩
  have HOe : Hid (OwnG lnK 9 we wd.heap.size (.slice (some ⟨wd.heap.size, 0, none⟩) 1 1) [H]) := Lib.hid (hwe ▸ ⟨by rw [← HS5.out]; exact World.ownsRow_lit wd #[.string (strB H)] 1 (Nat.le_refl _) (by decide) rfl, fun _ _ => trivial⟩)
  have hbe : Below wd.heap.size wd we := hwe ▸ (Below.refl _ _).alloc (Nat.le_refl _) _
  have HBe := Lib.hid (HBd.out.trans (hbe.mono HBd.out.size))
  have HCe : Hid (BoxFT we w.heap.size f t (.slice a n c)) := Lib.hid (HCd.out.below hbe)
  clear hbe
  rw [hwe]
  clear hwe
  refine hK.out _ _ HCe.out (fun hHeld => ?_)
  clear hK K
  refine wpAnyH_take (i := 10) (oi := ⟨some 3, .assign (.tmp 17), _, _, _, _⟩) (v := (.slice (some ⟨wd.heap.size, 0, none⟩) 1 1)) rfl (by kernel_rfl) (by kernel_rfl) (by kernel_rfl) (fun _ _ _ h => h) (Or.inl ⟨by rfl, fun W hW => by go_simp⟩) (by assumption) ?_
  simp only [Act.put, List.setIfInBounds_toArray, List.set_cons_zero, List.set_cons_succ]
  refine wpAnyH_done (by kernel_rfl) ?_ _
  clear hHeld
  have hx := HCe.out.2.2
  have HOn : Hid (OwnG lnK 9 we w.heap.size (.slice (some ⟨wd.heap.size, 0, none⟩) 1 1) [H]) := Lib.hid (HOe.out.mono HBd.out.size)
  generalize wd.heap.size = z at HOn ⊢
  clear HOe HCe HBd HCd HBc HCc HBb HCb D1 D2 D3 ITS1 ITS4 HS5 HH
  go_wp2_with fail
  clear hx
  go_loopg [3, 21] n (fun gk v3 v21 W => ∃ (i : Nat) (a4 : Option Addr) (n4 c4 : Nat), v21 = .int .i64 (i : Nat) ∧ v3 = .slice a4 n4 c4 ∧ Hid (gk + i = n) ∧ Hid (OwnG lnK 9 W w.heap.size (.slice a4 n4 c4) (H :: (L.take i).map endF)) ∧ Hid (Below w.heap.size w W))
  case atStart => exact ⟨0, _, _, _, rfl, rfl, Lib.hid (by omega), HOn, HBe⟩
  case round =>
    clear HOn HBe
    obtain ⟨i, a4, n4, c4, rfl, rfl, HI, HO, HB⟩ := hrel
    by_cases hi : (i : Int) < (n : Int)
    · obtain ⟨b, off, rfl⟩ := HL.out.some_ (by omega)
      obtain ⟨s, hs⟩ : ∃ s, L.getD i [] = s := ⟨_, rfl⟩
      have hcell : wr.cell? ⟨b, off + i, none⟩ = some (.string (strB s)) := by
        have h1 := ln_cell (HL.out.below HB.out) i (by omega)
        rw [hs] at h1
        exact h1
      have HSL : Hid (s.length ≤ 4000000001) := Lib.hid (HLL.out s (by rw [← hs, List.getD_eq_getElem?_getD, List.getElem?_eq_getElem (by have := HN.out; omega)]; exact List.getElem_mem _))
      have HST : Hid (H :: (L.take (i + 1)).map endF = (H :: (L.take i).map endF) ++ [endF s]) := Lib.hid (by rw [take_snoc L i [] (by have := HN.out; omega), hs, List.map_append]; rfl)
      have HLE : Hid ((H :: (L.take i).map endF).length = i + 1) := Lib.hid (by rw [List.length_cons, List.length_map, List.length_take]; have := HN.out; omega)
      have HIN : Hid (i < n) := Lib.hid (by omega)
      have hi0 : (0 : Int) ≤ (i : Int) := by omega
      have W1 : IntKind.i64.wrap ((i : Int) + 1) = (i : Int) + 1 := IntWalk.i64_in _ (by have := HN.out; omega)
      obtain ⟨x, hx⟩ : ∃ x, trimSuffix s [10] = x := ⟨_, rfl⟩
      have hxl : x.length ≤ 4000000001 := by have h1 := trim_le s; rw [hx] at h1; have h2 := HSL.out; omega
      obtain ⟨q, hq⟩ : ∃ q, hasSuffix s [10] = q := ⟨_, rfl⟩
      have HCU := Lib.hid (cutH s x q hx hq (by have := HSL.out; omega))
      cases q with
      | true =>
        have HE : Hid (endF s = x) := Lib.hid (by unfold endF; rw [hq, if_pos rfl, hx])
        clear hs hx hq hxl
        go_wp2_with (first
          | (go_at_call 51; (with_reducible refine (HCU.out wr).mono ?_); rintro e w5 ⟨rfl, rfl⟩)
          | (at_builtin; go_loud (refine appG lnK Tryd.underlying32 infoStH rfl rfl _ _ rfl w.heap.size _ (H :: (L.take i).map endF) rfl (HO.out.alloc _) (some ⟨w5.heap.size, 0, none⟩) 1 1 [x] rfl (oneG w5 x trivial 9 _ rfl) (by have h1 := HLE.out; have h2 := HN.out; have h3 := HIN.out; omega) (by have := HB.out.size; simp; omega) (i + 1 + 1) (by rw [HLE.out]) ?_); intro a6 c6 w6 ho hg; have HO6 := Lib.hid ho; have HB6 := Lib.hid ((HB.out.alloc HB.out.size _).grown hg (by have := HB.out.size; simp; omega) (fun k h => (HO.out.lt k h).1)); clear ho hg))
        go_roundg (gk - 1)
        case measure => have h1 := HI.out; have h2 := HIN.out; omega
        case rel => exact ⟨i + 1, a6, i + 1 + 1, c6, by go_num, rfl, Lib.hid (by have h1 := HI.out; have h2 := HIN.out; omega), Lib.hid (by rw [HST.out, HE.out]; exact HO6.out), HB6⟩
      | false =>
        have HE : Hid (endF s = x ++ [92]) := Lib.hid (by unfold endF; rw [hq, if_neg (by decide), ← hx]; unfold trimSuffix; rw [hq, if_neg (by decide)])
        obtain ⟨Y, hY⟩ : ∃ Y, strB (x ++ [92]) = Y := ⟨_, rfl⟩
        have hcat : ∀ W, (Op.stringOp .add (strB x) ⟨#[92]⟩).run Tryd.prog W = .ok (.string Y) W := fun W => by rw [← hY]; exact run_catL x [92] (by simp only [List.length_cons, List.length_nil]; omega) W
        have HY := Lib.hid hY
        clear hs hx hq hxl hY
        go_wp2_with (first
          | (go_at_call 51; (with_reducible refine (HCU.out wr).mono ?_); rintro e w5 ⟨rfl, rfl⟩)
          | (at_builtin; go_loud (refine appG lnK Tryd.underlying32 infoStH rfl rfl _ _ rfl w.heap.size _ (H :: (L.take i).map endF) rfl (HO.out.alloc _) (some ⟨w5.heap.size, 0, none⟩) 1 1 [x ++ [92]] rfl (oneG w5 (x ++ [92]) trivial 9 _ (by rw [← HY.out]; rfl)) (by have h1 := HLE.out; have h2 := HN.out; have h3 := HIN.out; omega) (by have := HB.out.size; simp; omega) (i + 1 + 1) (by rw [HLE.out]) ?_); intro a6 c6 w6 ho hg; have HO6 := Lib.hid ho; have HB6 := Lib.hid ((HB.out.alloc HB.out.size _).grown hg (by have := HB.out.size; simp; omega) (fun k h => (HO.out.lt k h).1)); clear ho hg))
        go_roundg (gk - 1)
        case measure => have h1 := HI.out; have h2 := HIN.out; omega
        case rel => exact ⟨i + 1, a6, i + 1 + 1, c6, by go_num, rfl, Lib.hid (by have h1 := HI.out; have h2 := HIN.out; omega), Lib.hid (by rw [HST.out, HE.out]; exact HO6.out), HB6⟩
    · have hin : i = n := by have := HI.out; omega
      subst hin
      go_wp2
      go_ret
      have e : L.take i = L := List.take_of_length_le (by have := HN.out; omega)
      have hO := HO.out
      rw [e] at hO
      exact ⟨a4, n4, c4, rfl, by rw [HHL.out]; exact hO.atG, HB.out⟩
#print axioms tell_any
end Go.Proofs.YtfoalaoanpbmeaaDoor
