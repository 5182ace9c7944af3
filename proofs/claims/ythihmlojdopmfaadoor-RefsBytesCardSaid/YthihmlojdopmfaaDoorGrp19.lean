/-
  Merged: RfCode2, RfEncode.
-/
import Derived.Test.YthihmlojdopmfaaDoorGrp15
import Derived.Test.YthihmlojdopmfaaDoorGrp1
import Derived.Test.YthihmlojdopmfaaDoorGrp9
import Derived.Test.YthihmlojdopmfaaDoorGrp18
namespace Go.Proofs.YthihmlojdopmfaaDoor
open Go.RowKit

def seg (B : List UInt8) (i j : Nat) : List UInt8 := (B.drop i).take (j - i)
theorem seg_append {B : List UInt8} {i j k : Nat} (h1 : i ≤ j) (h2 : j ≤ k) : seg B i j ++ seg B j k = seg B i k := by
 unfold seg
 have e : B.drop j = (B.drop i).drop (j - i) := by rw [List.drop_drop]; congr 1; omega
 rw [e, show k - i = (j - i) + (k - j) from by omega, List.take_add]
theorem seg_self (B : List UInt8) (i : Nat) : seg B i i = [] := by unfold seg; simp
theorem seg_all (B : List UInt8) : seg B 0 B.length = B := by unfold seg; simp
theorem pN_ok {B : List UInt8} {at_ m n u : Nat} (h : pN B at_ m = some (n, u)) : at_ ≤ u ∧ u ≤ B.length ∧ seg B at_ u = numF n ∧ n ≤ m := by
 unfold pN at h
 rcases hq : getI B at_ with ⟨n', u', e⟩
 rw [hq] at h
 cases e with
 | succ e => cases h
 | zero =>
  simp only at h
  split at h
  ·rename_i hm
   simp only [Option.some.injEq, Prod.mk.injEq] at h
   obtain ⟨rfl, rfl⟩ := h
   obtain ⟨h1, h2, h3, h4, h5⟩ := getI_ok hq
   rw [show ((at_ : Nat) : Int).toNat = at_ from by omega] at h2 h5
   exact ⟨by omega, h3, h5, hm⟩
  ·cases h
theorem pT_ok {B : List UInt8} {at_ m u : Nat} {s : List UInt8} (h : pT B at_ m = some (s, u)) : at_ ≤ u ∧ u ≤ B.length ∧ seg B at_ u = txtRf s ∧ s.length ≤ m := by
 unfold pT getT at h
 rcases hq : getI B at_ with ⟨n', u', e⟩
 rw [hq] at h
 cases e with
 | succ e => simp at h
 | zero =>
  simp only at h
  split at h
  ·rename_i hx
   split at hx
   ·simp at hx
   ·rename_i hm
    split at hx
    ·simp at hx
    ·rename_i hl
     simp only [Prod.mk.injEq] at hx
     simp only [Option.some.injEq, Prod.mk.injEq] at h
     obtain ⟨rfl, rfl⟩ := h
     obtain ⟨e1, e2, _⟩ := hx
     obtain ⟨h1, h2, h3, h4, h5⟩ := getI_ok hq
     rw [show ((at_ : Nat) : Int).toNat = at_ from by omega] at h2 h5
     have hlen : (List.take n' (List.drop u' B)).length = n' := by rw [List.length_take, List.length_drop]; omega
     subst e1
     subst e2
     refine ⟨by omega, by omega, ?_, by rw [hlen]; omega⟩
     rw [← seg_append (j := u') (by omega) (by omega)]
     unfold txtRf
     rw [hlen]
     congr 1
     unfold seg
     congr 1; omega
  ·cases h
theorem pD_ok {B : List UInt8} {at_ u : Nat} {s : List UInt8} (h : pD B at_ = some (s, u)) : at_ ≤ u ∧ u ≤ B.length ∧ seg B at_ u = s ∧ s.length = 32 := by
 unfold pD getD_ at h
 split at h
 ·rename_i hx
  split at hx
  ·simp at hx
  ·rename_i h1
   split at hx
   ·simp at hx
   ·rename_i h2
    simp only [Prod.mk.injEq] at hx
    simp only [Option.some.injEq, Prod.mk.injEq] at h
    obtain ⟨rfl, rfl⟩ := h
    obtain ⟨e1, e2, _⟩ := hx
    rw [show ((at_ : Nat) : Int).toNat = at_ from by omega] at e1 e2
    subst e1
    subst e2
    refine ⟨by omega, by omega, ?_, by rw [List.length_take, List.length_drop]; omega⟩
    unfold seg
    rw [show at_ + 32 - at_ = 32 from by omega]
 ·cases h
theorem pB_ok {B : List UInt8} {at_ u : Nat} {k : UInt8} (h : pB B at_ = some (k, u)) : at_ ≤ u ∧ u ≤ B.length ∧ seg B at_ u = [k] := by
 unfold pB at h
 split at h
 ·rename_i hi
  simp only [Option.some.injEq, Prod.mk.injEq] at h
  obtain ⟨rfl, rfl⟩ := h
  refine ⟨by omega, by omega, ?_⟩
  unfold seg
  rw [show at_ + 1 - at_ = 1 from by omega, List.drop_eq_getElem_cons hi, List.take_succ_cons, List.take_zero, List.getD_eq_getElem?_getD, List.getElem?_eq_getElem hi]
  rfl
 ·cases h
theorem pName_ok {B : List UInt8} {at_ m u : Nat} {x : RName} (h : pName B m at_ = some (x, u)) : at_ ≤ u ∧ u ≤ B.length ∧ seg B at_ u = nameB x ∧ x.1.length ≤ m ∧ x.2.length = 32 := by
 unfold pName at h
 rcases h1 : pT B at_ m with _ | ⟨s, u1⟩
 ·rw [h1] at h; cases h
 rw [h1] at h
 simp only [Option.bind_some] at h
 rcases h2 : pD B u1 with _ | ⟨i, u2⟩
 ·rw [h2] at h; cases h
 rw [h2] at h
 simp only [Option.map_some, Option.some.injEq, Prod.mk.injEq] at h
 obtain ⟨rfl, rfl⟩ := h
 obtain ⟨a1, a2, a3, a4⟩ := pT_ok h1
 obtain ⟨b1, b2, b3, b4⟩ := pD_ok h2
 exact ⟨by omega, b2, by rw [← seg_append a1 b1, a3, b3]; rfl, a4, b4⟩
theorem pEnt_ok {B : List UInt8} {at_ m u : Nat} {x : EntV} (h : pEnt B m at_ = some (x, u)) : at_ ≤ u ∧ u ≤ B.length ∧ seg B at_ u = entB x ∧ x.upd.name.length ≤ m ∧ UpOk x.upd ∧ x.note.length ≤ 256 := by
 unfold pEnt at h
 rcases h0 : pB B at_ with _ | ⟨k, u0⟩
 ·rw [h0] at h; cases h
 rw [h0] at h
 simp only [Option.bind_some] at h
 rcases h1 : pT B u0 m with _ | ⟨s, u1⟩
 ·rw [h1] at h; cases h
 rw [h1] at h
 simp only [Option.bind_some] at h
 rcases h2 : pD B u1 with _ | ⟨o, u2⟩
 ·rw [h2] at h; cases h
 rw [h2] at h
 simp only [Option.bind_some] at h
 rcases h3 : pD B u2 with _ | ⟨n, u3⟩
 ·rw [h3] at h; cases h
 rw [h3] at h
 simp only [Option.bind_some] at h
 rcases h4 : pT B u3 256 with _ | ⟨t, u4⟩
 ·rw [h4] at h; cases h
 rw [h4] at h
 simp only [Option.map_some, Option.some.injEq, Prod.mk.injEq] at h
 obtain ⟨rfl, rfl⟩ := h
 obtain ⟨z1, z2, z3⟩ := pB_ok h0
 obtain ⟨a1, a2, a3, a4⟩ := pT_ok h1
 obtain ⟨b1, b2, b3, b4⟩ := pD_ok h2
 obtain ⟨c1, c2, c3, c4⟩ := pD_ok h3
 obtain ⟨d1, d2, d3, d4⟩ := pT_ok h4
 refine ⟨by omega, d2, ?_, a4, ⟨by have := k.toNat_lt; show k.toNat < 256; omega, b4, c4⟩, d4⟩
 rw [← seg_append z1 (Nat.le_trans a1 (Nat.le_trans b1 (Nat.le_trans c1 d1))), ← seg_append a1 (Nat.le_trans b1 (Nat.le_trans c1 d1)), ← seg_append b1 (Nat.le_trans c1 d1), ← seg_append c1 d1, z3, a3, b3, c3, d3]
 unfold entB
 simp
theorem pList_ok {α : Type} {B : List UInt8} {get : Nat → Option (α × Nat)} (wr : α → List UInt8) (ok : α → Prop) (hg : ∀ at_ x u, get at_ = some (x, u) → at_ ≤ u ∧ u ≤ B.length ∧ seg B at_ u = wr x ∧ ok x) :
  ∀ (n at_ : Nat) (L : List α) (u : Nat), at_ ≤ B.length → pList get n at_ = some (L, u) → at_ ≤ u ∧ u ≤ B.length ∧ seg B at_ u = L.flatMap wr ∧ L.length = n ∧ ∀ x ∈ L, ok x
 | 0, at_, L, u, ha, h => by
  simp only [pList, Option.some.injEq, Prod.mk.injEq] at h
  obtain ⟨rfl, rfl⟩ := h
  exact ⟨Nat.le_refl _, ha, seg_self _ _, rfl, fun x hx => by cases hx⟩
 | n + 1, at_, L, u, ha, h => by
  unfold pList at h
  rcases h1 : get at_ with _ | ⟨x, u1⟩
  ·rw [h1] at h; cases h
  rw [h1] at h
  simp only [Option.bind_some] at h
  rcases h2 : pList get n u1 with _ | ⟨M, u2⟩
  ·rw [h2] at h; cases h
  rw [h2] at h
  simp only [Option.map_some, Option.some.injEq, Prod.mk.injEq] at h
  obtain ⟨rfl, rfl⟩ := h
  obtain ⟨a1, a2, a3, a4⟩ := hg _ _ _ h1
  obtain ⟨b1, b2, b3, b4, b5⟩ := pList_ok wr ok hg n u1 M u2 a2 h2
  refine ⟨by omega, b2, by rw [← seg_append a1 b1, a3, b3]; rfl, by simp [b4], fun y hy => ?_⟩
  rcases List.mem_cons.1 hy with rfl | hy
  ·exact a4
  ·exact b5 y hy
theorem pNames_ok {B : List UInt8} {at_ m u : Nat} {L : List RName} (h : pNames B m at_ = some (L, u)) : at_ ≤ u ∧ u ≤ B.length ∧ seg B at_ u = listB L ∧ L.length ≤ 64 ∧ ∀ x ∈ L, x.1.length ≤ m ∧ x.2.length = 32 := by
 unfold pNames at h
 rcases h1 : pN B at_ 64 with _ | ⟨n, u1⟩
 ·rw [h1] at h; cases h
 rw [h1] at h
 simp only [Option.bind_some] at h
 obtain ⟨a1, a2, a3, a4⟩ := pN_ok h1
 obtain ⟨b1, b2, b3, b4, b5⟩ := pList_ok nameB (fun x => x.1.length ≤ m ∧ x.2.length = 32) (fun _ _ _ hx => by obtain ⟨c1, c2, c3, c4, c5⟩ := pName_ok hx; exact ⟨c1, c2, c3, c4, c5⟩) n u1 L u a2 h
 exact ⟨by omega, b2, by rw [← seg_append a1 b1, a3, b3, ← b4]; rfl, by omega, b5⟩
theorem pLog_ok {B : List UInt8} {at_ m u : Nat} {L : List EntV} (h : pLog B m at_ = some (L, u)) : at_ ≤ u ∧ u ≤ B.length ∧ seg B at_ u = numF L.length ++ logB L ∧ L.length ≤ 64 ∧ ∀ x ∈ L, x.upd.name.length ≤ m ∧ UpOk x.upd ∧ x.note.length ≤ 256 := by
 unfold pLog at h
 rcases h1 : pN B at_ 64 with _ | ⟨n, u1⟩
 ·rw [h1] at h; cases h
 rw [h1] at h
 simp only [Option.bind_some] at h
 obtain ⟨a1, a2, a3, a4⟩ := pN_ok h1
 obtain ⟨b1, b2, b3, b4, b5⟩ := pList_ok entB (fun x => x.upd.name.length ≤ m ∧ UpOk x.upd ∧ x.note.length ≤ 256) (fun _ _ _ hx => by obtain ⟨c1, c2, c3, c4, c5, c6⟩ := pEnt_ok hx; exact ⟨c1, c2, c3, c4, c5, c6⟩) n u1 L u a2 h
 exact ⟨by omega, b2, by rw [← seg_append a1 b1, a3, b3, ← b4]; rfl, by omega, b5⟩
theorem read_ok {B : List UInt8} {m : Nat} {r : RefsV} (h : readF B m = some r) : writeF r = B ∧ Full r ∧ (∀ e ∈ r.log, e.upd.name.length ≤ m ∧ e.note.length ≤ 256) ∧ r.head.length ≤ m ∧ (∀ x ∈ r.br, x.1.length ≤ m) ∧ (∀ x ∈ r.tg, x.1.length ≤ m) ∧ r.br.length ≤ 64 ∧ r.tg.length ≤ 64 ∧ r.log.length ≤ 64 := by
 unfold readF at h
 rcases h1 : pNames B m 0 with _ | ⟨br, u1⟩
 ·rw [h1] at h; cases h
 rw [h1] at h
 simp only [Option.bind_some] at h
 rcases h2 : pNames B m u1 with _ | ⟨tg, u2⟩
 ·rw [h2] at h; cases h
 rw [h2] at h
 simp only [Option.bind_some] at h
 rcases h3 : pT B u2 m with _ | ⟨hd, u3⟩
 ·rw [h3] at h; cases h
 rw [h3] at h
 simp only [Option.bind_some] at h
 rcases h4 : pD B u3 with _ | ⟨ai, u4⟩
 ·rw [h4] at h; cases h
 rw [h4] at h
 simp only [Option.bind_some] at h
 rcases h5 : pLog B m u4 with _ | ⟨lg, u5⟩
 ·rw [h5] at h; cases h
 rw [h5] at h
 simp only [Option.bind_some] at h
 split at h
 ·rename_i hu
  simp only [Option.some.injEq] at h
  subst h
  obtain ⟨a1, a2, a3, a4, a5⟩ := pNames_ok h1
  obtain ⟨b1, b2, b3, b4, b5⟩ := pNames_ok h2
  obtain ⟨c1, c2, c3, c4⟩ := pT_ok h3
  obtain ⟨d1, d2, d3, d4⟩ := pD_ok h4
  obtain ⟨e1, e2, e3, e4, e5⟩ := pLog_ok h5
  refine ⟨?_, ⟨fun x hx => (a5 x hx).2, fun x hx => (b5 x hx).2, fun x hx => (e5 x hx).2.1, d4⟩, fun x hx => ⟨(e5 x hx).1, (e5 x hx).2.2⟩, c4, fun x hx => (a5 x hx).1, fun x hx => (b5 x hx).1, a4, b4, e4⟩
  have hB := seg_all B
  rw [← hu, ← seg_append (Nat.zero_le u1) (Nat.le_trans b1 (Nat.le_trans c1 (Nat.le_trans d1 e1))), ← seg_append b1 (Nat.le_trans c1 (Nat.le_trans d1 e1)), ← seg_append c1 (Nat.le_trans d1 e1), ← seg_append d1 e1, a3, b3, c3, d3, e3] at hB
  exact hB
 ·cases h
end Go.Proofs.YthihmlojdopmfaaDoor

namespace Go.Proofs.YthihmlojdopmfaaDoor
open Go.RowKit

theorem flat_len {α : Type} (f : α → List UInt8) (k : Nat) : ∀ (L : List α), (∀ x ∈ L, (f x).length ≤ k) → (L.flatMap f).length ≤ L.length * k
 | [], _ => by simp
 | x :: L, h => by
  have h1 := h x List.mem_cons_self
  have h2 := flat_len f k L (fun y hy => h y (List.mem_cons_of_mem _ hy))
  rw [List.flatMap_cons, List.length_append, List.length_cons, Nat.succ_mul]
  omega
theorem txt_len {s : List UInt8} (h : s.length ≤ 1000) : (txtRf s).length ≤ 1009 := by
 have h9 := numF_length_le9 s.length (by omega)
 unfold txtRf
 rw [List.length_append]
 omega
theorem wrLen {w : World} {S : RfS} {r : RefsV} (h : RightV r) (hi : RfIn w S r) : WrLen r := by
 have hh := head_len32 h
 obtain ⟨h1, h2, h3, h4⟩ := h
 have n1 : ∀ x ∈ r.br, x.1.length ≤ 1000 := fun x hx => by have := name_len (h1.2.1 x hx).1; omega
 have n2 : ∀ x ∈ r.tg, x.1.length ≤ 1000 := fun x hx => by have := name_len (h2.2.1 x hx).1; omega
 have n3 : ∀ e ∈ r.log, e.upd.name.length ≤ 1000 ∧ e.note.length ≤ 1000 := fun e he => by
  have := h4.2 e he
  unfold entF at this
  simp only [Bool.and_eq_true, decide_eq_true_eq] at this
  have hn := note_len this.2
  exact ⟨by omega, by omega⟩
 refine ⟨by have := h1.1; omega, by have := h2.1; omega, by have := h4.1; omega, n1, n2, by omega, n3, ?_⟩
 have b1 : (namesB r.br).length ≤ r.br.length * 1041 := flat_len nameB 1041 r.br (fun x hx => by
  have := txt_len (n1 x hx); have h32 : x.2.length = 32 := hi.br.2.2.2.1 x hx
  unfold nameB; rw [List.length_append]; omega)
 have b2 : (namesB r.tg).length ≤ r.tg.length * 1041 := flat_len nameB 1041 r.tg (fun x hx => by
  have := txt_len (n2 x hx); have h32 : x.2.length = 32 := hi.tg.2.2.2.1 x hx
  unfold nameB; rw [List.length_append]; omega)
 have b3 : (logB r.log).length ≤ r.log.length * 2083 := flat_len entB 2083 r.log (fun x hx => by
  have := txt_len (n3 x hx).1; have := txt_len (n3 x hx).2
  have hu : UpOk x.upd := hi.log.2.2.2.1 x hx
  have h32 := hu.2.1; have h33 := hu.2.2
  unfold entB; simp only [List.length_append, List.length_cons, List.length_nil]; omega)
 have b4 := txt_len (s := r.head) (by omega)
 have q1 := numF_length_le9 r.br.length (by have := h1.1; omega)
 have q2 := numF_length_le9 r.tg.length (by have := h2.1; omega)
 have q3 := numF_length_le9 r.log.length (by have := h4.1; omega)
 have c1 : r.br.length * 1041 ≤ 64 * 1041 := Nat.mul_le_mul_right _ h1.1
 have c2 : r.tg.length * 1041 ≤ 64 * 1041 := Nat.mul_le_mul_right _ h2.1
 have c3 : r.log.length * 2083 ≤ 64 * 2083 := Nat.mul_le_mul_right _ h4.1
 have ha := hi.at_
 unfold writeF listB
 simp only [List.length_append]
 omega
def EncIs (w : World) (R : List UInt8 × Nat) (e : Ending) (w' : World) : Prop := ∃ a n c, e = .returned (.tuple #[.slice a n c, .int .i64 (R.2 : Nat)]) ∧ Own w' w.heap.size (.slice a n c) R.1 ∧ Below w.heap.size w w'
set_option maxRecDepth 100000 in
set_option maxHeartbeats 4000000 in
theorem encodeR_any (S : RfS) (r : RefsV) (w : World) (h : RfIn w S r) (hs : RfLen r) (hT : Tabs w) :
  Calls Tryd.prog 5 #[.agg (rfC S r.head r.at_)] w (EncIs w (encRf r)) := by
 obtain ⟨q, hq⟩ : ∃ q : Bool, q = true ↔ RightV r := by classical exact ⟨decide (RightV r), decide_eq_true_iff⟩
 have HD : Hid (encRf r = if q then (writeF r, 0) else ([], 1)) := Lib.hid (by
  unfold encRf
  cases q
  ·simp only [Bool.false_eq_true, if_false]; rw [if_neg (fun h => by cases hq.2 h)]
  ·simp only [if_true]; rw [if_pos (hq.1 rfl)])
 have HAT := Lib.hid h.at_
 have HIN := Lib.hid h
 have HQ := Lib.hid hq
 obtain ⟨w1, hw1⟩ : ∃ W, w.alloc (.cells (rfC S r.head r.at_) REf) = W := ⟨_, rfl⟩
 have HB1 : Hid (Below w.heap.size w w1) := Lib.hid (hw1 ▸ (Below.refl _ _).alloc (Nat.le_refl _) _)
 have HR1 : Hid (RowAt w1 w.heap.size REf (rfL S r.head r.at_)) := Lib.hid (hw1 ▸ heap_alloc_new w _)
 have HS1 : Hid (w.heap.size ≤ w1.heap.size) := Lib.hid HB1.out.size
 have HT1 : Hid (Tabs w1) := Lib.hid (hT.below HB1.out)
 have HW1 := Lib.hid hw1
 have HRT := Lib.hid (right_any S r w1 (h.below HB1.out) hs HT1.out q hq)
 clear h hq hT hw1
 cases q
 ·go_enter Tryd.func5, Tryd.ntmps5
  go_wp2_with (first
   | ((with_reducible show wpList _ _ _ (⟨some 4, _, _, _, _, _⟩ :: _) _ (World.alloc _ _)); rw [HW1.out]; go_must (refine wl_ex rfl (exec_loadRf _ rfl _ S r.head r.at_ HAT.out rfl HR1.out) ?_))
   | (go_at_call 13; go_must (refine HRT.out.mono ?_); rintro e w2 ⟨rfl, hb⟩; have HB2 := thn HB1 hb; clear hb))
  go_ret2
  rw [HD.out]
  exact ⟨none, 0, 0, rfl, Own.nil _ _, HB2.out⟩
 ·have HWL := Lib.hid (wrLen (HQ.out.1 rfl) HIN.out)
  go_enter Tryd.func5, Tryd.ntmps5
  go_wp2_with (first
   | ((with_reducible show wpList _ _ _ (⟨some 4, _, _, _, _, _⟩ :: _) _ (World.alloc _ _)); rw [HW1.out]; go_must (refine wl_ex rfl (exec_loadRf _ rfl _ S r.head r.at_ HAT.out rfl HR1.out) ?_))
   | (go_at_call 13; go_must (refine HRT.out.mono ?_); rintro e w2 ⟨rfl, hb⟩; have HB2 := thn HB1 hb; have HR2 := Lib.hid (HR1.out.below hb); clear hb)
   | ((with_reducible refine atS 7 ?_); go_must (refine wl_ex rfl (exec_loadRf _ rfl _ S r.head r.at_ HAT.out rfl HR2.out) ?_))
   | (go_at_call 14; go_must (refine (write_any S r w2 (HIN.out.below HB2.out) HWL.out).mono ?_); rintro e w3 ⟨a3, n3, c3, rfl, ho, hb⟩; have HO3 := Lib.hid (ho.mono HB2.out.size); have HB3 := thn HB2 hb; clear ho hb))
  go_ret2
  rw [HD.out]
  exact ⟨a3, n3, c3, rfl, HO3.out, HB3.out⟩
end Go.Proofs.YthihmlojdopmfaaDoor
