/-
  Merged: UtfGet0, RfOpenN.
-/
import Derived.Test.YthihmlojdopmfaaDoorUtfOne
import Derived.Test.YthihmlojdopmfaaDoorGrp1
import Derived.Test.YthihmlojdopmfaaDoorUtfShelf
import Derived.Test.YthihmlojdopmfaaDoorCards
import Derived.Test.YthihmlojdopmfaaDoorTie
import Derived.Test.YthihmlojdopmfaaDoorOpen
import Derived.Test.YthihmlojdopmfaaDoorGrp2
import Derived.Test.YthihmlojdopmfaaDoorGrp4
import Derived.Deep.Slices
import Derived.WalkKit
import Derived.ProofKit
import Derived.OpenShut
import Derived.Deep.DeepHandedRow
import Derived.Lib.LaidU8T
import Derived.Stop.LaidErr
namespace Go.Proofs.YthihmlojdopmfaaDoor
open Go.RowKit

def Tabs (w : World) : Prop := Lib.Utf8Tabs 1 2 w

theorem Tabs.below {w w' : World} (h : Tabs w) (hb : Below w.heap.size w w') : Tabs w' := Utf8Tabs_below h hb

def decE (l : List UInt8) (at_ : Int) : Nat × Int × Nat :=
 if at_ < 0 ∨ (l.length : Int) ≤ at_ then (0, 0, 1) else match decF (l.drop at_.toNat) with | some (n, k) => (n, at_ + (k : Int), 0) | none => (0, 0, 5)

def DecIs (r : Nat × Int × Nat) (w : World) (e : Ending) (w' : World) : Prop := e = .returned (.tuple #[.int .i32 r.1, .int .i64 r.2.1, .int .i64 r.2.2]) ∧ Below w.heap.size w w'

theorem DecIs.mk {n : Nat} {Y V Z : Int} {w w' : World} (hV : V = (n : Int)) (hZ : Z = Y) (hb : Below w.heap.size w w') : DecIs (n, Y, 0) w (.returned (.tuple #[.int .i32 V, .int .i64 Z, .int .i64 0])) w' := by
 subst hV hZ; exact ⟨rfl, hb⟩

theorem decE_out {l : List UInt8} {at_ : Int} (h : at_ < 0 ∨ (l.length : Int) ≤ at_) : decE l at_ = (0, 0, 1) := by unfold decE; rw [if_pos h]
theorem decE_some {l : List UInt8} {p n k : Nat} (hp : p < l.length) (h : decF (l.drop p) = some (n, k)) : decE l (p : Int) = (n, (p : Int) + (k : Int), 0) := by
 unfold decE; rw [if_neg (by omega), Int.toNat_natCast, h]
theorem decE_none {l : List UInt8} {p : Nat} (hp : p < l.length) (h : decF (l.drop p) = none) : decE l (p : Int) = (0, 0, 5) := by
 unfold decE; rw [if_neg (by omega), Int.toNat_natCast, h]

theorem str_len (s : ByteArray) : s.data.toList.length = s.size := by simp

theorem libDec (s : ByteArray) (p : Nat) (R K : Nat) (w : World) (hp : p < s.size) (h : decR (s.data.toList.drop p) = (R, K)) (hT : Tabs w) :
  Calls Tryd.prog 97 #[.string (s.extract p s.size)] w fun e w' => e = .returned (.tuple #[.int .i32 (R : Int), .int .i64 (K : Int)]) ∧ Below w.heap.size w w' := by
 have hx : s.extract p s.size = strB (s.data.toList.drop p) := by
  rw [extract_list]
  congr 1
  exact List.take_of_length_le (by simp)
 have hd : Lib.decodeGo (s.extract p s.size) = (R, K) := by
  rw [hx, decodeGo_eq _ (by rw [strB_size]; simp; omega), strB_list, h]
 have := Tryd.utf8_DecodeRuneInString (s.extract p s.size) w hT
 rw [hd] at this
 exact this

theorem dec_bounds {l : List UInt8} {n k : Nat} (h : decF l = some (n, k)) : n ≤ 1114111 ∧ 1 ≤ k ∧ k ≤ 4 ∧ k ≤ l.length := by
 obtain ⟨hm, hk, hl, _⟩ := decF_some h
 have := encF_pos n
 exact ⟨mayF_lt hm, by omega, by omega, hl⟩

set_option maxRecDepth 100000 in
set_option maxHeartbeats 1000000 in
theorem decode_any (s : ByteArray) (at_ : Int) (w : World) (hs : s.size ≤ 140737488355328) (hT : Tabs w) :
  Calls Tryd.prog 91 #[.string s, .int .i64 at_] w (DecIs (decE s.data.toList at_) w) := by
 have hsI : (s.size : Int) ≤ 140737488355328 := by omega
 have HT := Lib.hid hT
 clear hT
 by_cases h1 : at_ < 0
 ·have HE := Lib.hid (decE_out (l := s.data.toList) (at_ := at_) (.inl h1))
  clear hs
  go_enter Tryd.func91, Tryd.ntmps91
  go_wp2
  go_ret3
  rw [HE.out]
  exact ⟨rfl, Below.refl _ _⟩
 ·by_cases h2 : (s.size : Int) ≤ at_
  ·have HE := Lib.hid (decE_out (l := s.data.toList) (at_ := at_) (.inr (by rw [str_len]; exact h2)))
   clear hs
   go_enter Tryd.func91, Tryd.ntmps91
   go_wp2
   go_ret3
   rw [HE.out]
   exact ⟨rfl, Below.refl _ _⟩
  ·obtain ⟨p, rfl⟩ := Int.eq_ofNat_of_zero_le (show 0 ≤ at_ by omega)
   have hp : p < s.size := by omega
   have hpI : (p : Int) < (s.size : Int) := by omega
   have hpI2 : (p : Int) ≤ (s.size : Int) := by omega
   have hp2 : p ≤ s.size := by omega
   clear h1 h2
   cases hd : decF (s.data.toList.drop p) with
   | none =>
    have HE := Lib.hid (decE_none (by rw [str_len]; exact hp) hd)
    have HR := Lib.hid (decR_none hd)
    have HP := Lib.hid hp
    clear hd hs hp
    go_enter Tryd.func91, Tryd.ntmps91
    go_wp2_with (go_at_call 97; go_must (refine (libDec s p _ _ _ HP.out HR.out HT.out).mono ?_); rintro e w1 ⟨rfl, hb⟩)
    go_ret3
    rw [HE.out]
    exact ⟨rfl, hb⟩
   | some q =>
    obtain ⟨n, k⟩ := q
    have HE := Lib.hid (decE_some (by rw [str_len]; exact hp) hd)
    have HR := Lib.hid (decR_some hd)
    have HP := Lib.hid hp
    obtain ⟨hn, hk1, hk4, hkl⟩ := dec_bounds hd
    have hkl' : (k : Int) ≤ (s.size : Int) - (p : Int) := by simp at hkl; omega
    have hk1' : (1 : Int) ≤ (k : Int) := by omega
    have h65 : n = 65533 → k ≠ 1 := fun h e => by subst e; have := decF_one hd; omega
    obtain ⟨V, hV⟩ : ∃ V : Int, V = (n : Int) := ⟨_, rfl⟩
    obtain ⟨Z, hZ⟩ : ∃ Z : Int, Z = (k : Int) := ⟨_, rfl⟩
    have HV := Lib.hid hV
    have HZ := Lib.hid hZ
    by_cases e1 : V = 65533
    ·have hz : ¬ Z = 1 := by have := h65 (by omega); omega
     have hzb : (Z == 1) = false := by simpa using hz
     have hz0 : 0 ≤ Z := by omega
     have hz4 : Z ≤ (s.size : Int) - (p : Int) := by omega
     have HE1 := Lib.hid e1
     clear hd hs hp hn hk1 hk4 hkl hkl' hk1' h65 hV hZ e1 hz
     go_enter Tryd.func91, Tryd.ntmps91
     go_wp2_with (go_at_call 97; go_must (refine (libDec s p n k _ HP.out HR.out HT.out).mono ?_); rintro e w1 ⟨rfl, hb⟩; rw [← HV.out, ← HZ.out, HE1.out])
     go_ret3
     rw [HE.out]
     exact DecIs.mk (HE1.out.symm.trans HV.out) (by rw [HZ.out]) hb
    ·have hvb : (V == 65533) = false := by simpa using e1
     have hz0 : 0 ≤ Z := by omega
     have hz4 : Z ≤ (s.size : Int) - (p : Int) := by omega
     clear hd hs hp hn hk1 hk4 hkl hkl' hk1' h65 hV hZ e1
     go_enter Tryd.func91, Tryd.ntmps91
     go_wp2_with (go_at_call 97; go_must (refine (libDec s p n k _ HP.out HR.out HT.out).mono ?_); rintro e w1 ⟨rfl, hb⟩; rw [← HV.out, ← HZ.out])
     go_ret3
     rw [HE.out]
     exact DecIs.mk HV.out (by rw [HZ.out]) hb

end Go.Proofs.YthihmlojdopmfaaDoor

namespace Go.Proofs.YthihmlojdopmfaaDoor
open Go.ChangeShapes Go.WideShapes Go.ChangeAt Go.RowKit

theorem first_data : Rows.laid_unicode_utf8_first = Lib.firstData := by kernel_rfl
theorem accept_data : (Rows.laid_unicode_utf8_acceptRanges : DataW Unit) = Lib.acceptData := by kernel_rfl
theorem tabs_of {W : World} (h : laidMetH Tryd.prog Rows.refsBytesRow.laid W) : Tabs W := by
 have h0 : laidMet Tryd.prog [("unicode/utf8.acceptRanges", Rows.laid_unicode_utf8_acceptRanges), ("unicode/utf8.first", Rows.laid_unicode_utf8_first)] W := h
 rw [first_data, accept_data] at h0
 exact utf8Tabs_of_reads (ρ := Tryd.lays260_ren) Tryd.lays260 ⟨by kernel_rfl, by kernel_rfl, by kernel_rfl, by kernel_rfl, by kernel_rfl, by kernel_rfl, by kernel_rfl⟩
  (Lib.laidMet.reads h0 (.tail _ (.head _))) (Lib.laidMet.reads h0 (.head _))
def firstO : Obj → Obj
 | .cells _ t frozen => .cells ((List.range 256).map fun c => Value.int .u8 (Lib.firstT c)).toArray t frozen
 | o => o
def acceptO : Obj → Obj
 | .cells _ t frozen => .cells ((List.range 16).flatMap fun i => [Value.int .u8 (Lib.accLo i), Value.int .u8 (Lib.accHi i)]).toArray t frozen
 | o => o
noncomputable def laidWorld (os : Os) : World :=
 { World.holding Tryd.prog os ⟨#[], #[], []⟩ with heap := ((World.holding Tryd.prog os ⟨#[], #[], []⟩).heap.modify 1 firstO).modify 2 acceptO }

section
variable {H : Type} {enc : TypeId × Value → H} {W : World} {n : Nat} {cs : List Value} {x : DataW H × List MemPlace}
theorem c1s : Tryd.prog.cellsOf 9 = 1 := by kernel_rfl
theorem c1u : Tryd.prog.cellsOf 5 = 1 := by kernel_rfl
theorem c32i : Tryd.prog.cellsOf 24 = 32 := by kernel_rfl
theorem c33n : Tryd.prog.cellsOf 54 = 33 := by kernel_rfl
theorem c66u : Tryd.prog.cellsOf 48 = 66 := by kernel_rfl
theorem c67e : Tryd.prog.cellsOf 50 = 67 := by kernel_rfl
theorem c36r : Tryd.prog.cellsOf 27 = 36 := by kernel_rfl
theorem c1n : Tryd.prog.cellsOf 22 = 1 := by kernel_rfl
theorem c1e : Tryd.prog.cellsOf 25 = 1 := by kernel_rfl
theorem cut1 (cs : List Value) (k m : Nat) : cs.drop k = (cs.drop k).take m ++ cs.drop (k + m) := by rw [← List.drop_drop, List.take_append_drop]
theorem named_cells (h : DataW.trod enc Tryd.prog W 0 (fun _ => true) true n 54 cs = some x) : ∃ y : RName, y.2.length = 32 ∧ cs = rnL y := by
 obtain ⟨xs, m, _, hx, hl', hlen, hfs⟩ := DataW.trod_struct Tryd.underlying54 h
 rw [c33n] at hl'
 obtain ⟨y0, y1, rfl⟩ : ∃ y0 y1, xs = [y0, y1] := by
  match xs, hlen with
  | [y0, y1], _ => exact ⟨y0, y1, rfl⟩
 have e0 : DataW.trod enc Tryd.prog W 0 (fun _ => true) true m 9 ((cs.drop 0).take (Tryd.prog.cellsOf 9)) = some y0 := hfs 0 _ rfl
 have e1 : DataW.trod enc Tryd.prog W 0 (fun _ => true) true m 24 ((cs.drop 1).take (Tryd.prog.cellsOf 24)) = some y1 := hfs 1 _ rfl
 obtain ⟨s0, k0, _, _⟩ := DataW.trod_string Tryd.underlying9 e0
 obtain ⟨l, k1, k1'⟩ := id_cells e1
 rw [c1s] at k0
 rw [c32i] at k1'
 refine ⟨(s0.data.toList, l), k1, ?_⟩
 have h2 : cs.drop 1 = (cs.drop 1).take 32 := by rw [List.take_of_length_le (by simp; omega)]
 have h1 : cs = (cs.drop 0).take 1 ++ cs.drop 1 := cut1 cs 0 1
 rw [h1, k0, h2, k1']
 unfold rnL
 rw [strB_of]; rfl
theorem update_cells (h : DataW.trod enc Tryd.prog W 0 (fun _ => true) true n 48 cs = some x) : ∃ y : UpdV, UpOk y ∧ cs = upL y := by
 obtain ⟨xs, m, _, hx, hl', hlen, hfs⟩ := DataW.trod_struct Tryd.underlying48 h
 rw [c66u] at hl'
 obtain ⟨y0, y1, y2, y3, rfl⟩ : ∃ y0 y1 y2 y3, xs = [y0, y1, y2, y3] := by
  match xs, hlen with
  | [y0, y1, y2, y3], _ => exact ⟨y0, y1, y2, y3, rfl⟩
 have e0 : DataW.trod enc Tryd.prog W 0 (fun _ => true) true m 5 ((cs.drop 0).take (Tryd.prog.cellsOf 5)) = some y0 := hfs 0 _ rfl
 have e1 : DataW.trod enc Tryd.prog W 0 (fun _ => true) true m 9 ((cs.drop 1).take (Tryd.prog.cellsOf 9)) = some y1 := hfs 1 _ rfl
 have e2 : DataW.trod enc Tryd.prog W 0 (fun _ => true) true m 24 ((cs.drop 2).take (Tryd.prog.cellsOf 24)) = some y2 := hfs 2 _ rfl
 have e3 : DataW.trod enc Tryd.prog W 0 (fun _ => true) true m 24 ((cs.drop 34).take (Tryd.prog.cellsOf 24)) = some y3 := hfs 3 _ rfl
 obtain ⟨z0, k0, _, w0⟩ := DataW.trod_int Tryd.underlying5 e0
 obtain ⟨s1, k1, _, _⟩ := DataW.trod_string Tryd.underlying9 e1
 obtain ⟨l2, k2, k2'⟩ := id_cells e2
 obtain ⟨l3, k3, k3'⟩ := id_cells e3
 have hb : 0 ≤ z0 ∧ z0 ≤ 255 := by simpa [Lit.wf, IntKind.min, IntKind.max, IntKind.signed, IntKind.bits] using w0
 rw [c1u] at k0
 rw [c1s] at k1
 rw [c32i] at k2' k3'
 refine ⟨⟨z0.toNat, s1.data.toList, l2, l3⟩, ⟨by show z0.toNat < 256; omega, k2, k3⟩, ?_⟩
 have h4 : cs.drop 34 = (cs.drop 34).take 32 := by rw [List.take_of_length_le (by simp; omega)]
 have h1 : cs = (cs.drop 0).take 1 ++ ((cs.drop 1).take 1 ++ ((cs.drop 2).take 32 ++ cs.drop 34)) := by rw [← cut1 cs 2 32, ← cut1 cs 1 1, ← cut1 cs 0 1]; rfl
 rw [h1, h4, k0, k1, k2', k3']
 unfold upL
 rw [strB_of, show ((z0.toNat : Nat) : Int) = z0 from by omega]
 rfl
theorem entry_cells (h : DataW.trod enc Tryd.prog W 0 (fun _ => true) true n 50 cs = some x) : ∃ y : EntV, UpOk y.upd ∧ cs = enL y := by
 obtain ⟨xs, m, _, hx, hl', hlen, hfs⟩ := DataW.trod_struct Tryd.underlying50 h
 rw [c67e] at hl'
 obtain ⟨y0, y1, rfl⟩ : ∃ y0 y1, xs = [y0, y1] := by
  match xs, hlen with
  | [y0, y1], _ => exact ⟨y0, y1, rfl⟩
 have e0 : DataW.trod enc Tryd.prog W 0 (fun _ => true) true m 48 ((cs.drop 0).take (Tryd.prog.cellsOf 48)) = some y0 := hfs 0 _ rfl
 have e1 : DataW.trod enc Tryd.prog W 0 (fun _ => true) true m 9 ((cs.drop 66).take (Tryd.prog.cellsOf 9)) = some y1 := hfs 1 _ rfl
 obtain ⟨u, hu, k0⟩ := update_cells e0
 obtain ⟨s1, k1, _, _⟩ := DataW.trod_string Tryd.underlying9 e1
 rw [c66u] at k0
 rw [c1s] at k1
 refine ⟨⟨u, s1.data.toList⟩, hu, ?_⟩
 have h4 : cs.drop 66 = (cs.drop 66).take 1 := by rw [List.take_of_length_le (by simp; omega)]
 have h1 : cs = (cs.drop 0).take 66 ++ cs.drop 66 := cut1 cs 0 66
 rw [h1, h4, k0, k1]
 unfold enL
 rw [strB_of]
theorem slice_cells {α : Type} [Inhabited α] (K : Kind α) {T E : TypeId} (hU : Tryd.prog.underlying T = some (.slice E)) (hc : Tryd.prog.cellsOf E = K.k)
  (hE : ∀ {n : Nat} {cs : List Value} {x : DataW H × List MemPlace}, DataW.trod enc Tryd.prog W 0 (fun _ => true) true n E cs = some x → ∃ y : α, K.ok y ∧ cs = K.cells y)
  (h : DataW.trod enc Tryd.prog W 0 (fun _ => true) true n T cs = some x) : ∃ a len cap L, cs = [.slice a len cap] ∧ AtG K W a len cap L := by
 rcases Deep.open_slice hU h with ⟨hcs, hx⟩ | ⟨x, l, c, m, n, D, Pl, hcs, _, hl, hm, hmm, hx, hel⟩
 ·exact ⟨none, 0, 0, [], hcs, AtG.nil⟩
 ·simp only [ite_true] at hmm
  subst hmm
  rw [hc] at hel
  obtain ⟨F, hF⟩ := Deep.choose_lt (α := α) (p := fun i k => K.ok k ∧ W.cells? 0 (x.add (i * K.k)) K.k = some (K.cells k)) (fun i hi => by
   obtain ⟨cs', h1, h2⟩ := hel i hi
   obtain ⟨f, h3, h4⟩ := hE h2
   exact ⟨f, h3, by rw [h1, h4]⟩)
  refine ⟨some x, l, m, (List.range l).map F, hcs, by simp, hl, by unfold maxLen at hm; omega, fun y hy => by
   obtain ⟨k, hk, rfl⟩ := List.mem_map.1 hy
   exact (hF k (by have := List.mem_range.1 hk; omega)).1, ?_⟩
  have hkp := K.pos
  by_cases hc0 : m = 0
  ·exact .inl ⟨by omega, hc0⟩
  ·have hcell : ∀ i, i < m → ∀ r, r < K.k → W.cell? (x.add (i * K.k + r)) = (K.cells (F i))[r]? := fun i hi r hr => by
    obtain ⟨_, _, h3⟩ := World.cells?_some (hF i hi).2
    have := h3 r hr
    rwa [Deep.add_add] at this
   have hlen : ∀ i, i < m → (K.cells (F i)).length = K.k := fun i hi => K.len (F i) (hF i hi).1
   have h0 := hcell 0 (by omega) 0 hkp
   rw [Nat.zero_mul, Nat.add_zero, List.getElem?_eq_getElem (by rw [hlen 0 (by omega)]; exact hkp)] at h0
   have h1 := World.cell?_spot h0
   obtain ⟨b, off, spot⟩ := x
   have hspot : spot = none := by simpa [Addr.add] using h1
   subst hspot
   refine .inr ⟨b, off, rfl, fun j hj i v hv => ?_⟩
   have e : gd ((List.range l).map F) j = F j := by unfold gd; simp [hj]
   rw [e] at hv
   have hil : i < K.k := by
    have := (List.getElem?_eq_some_iff.1 hv).1
    rwa [hlen j (by omega)] at this
   have h2 := hcell j (by omega) i hil
   rw [Addr.add_lit, ← Nat.add_assoc] at h2
   rw [h2]
   exact hv
theorem refs_cells (h : DataW.trod enc Tryd.prog W 0 (fun _ => true) true n 27 cs = some x) : ∃ (S : RfS) (r : RefsV), RfIn W S r ∧ cs = rfL S r.head r.at_ := by
 obtain ⟨xs, m, _, hx, hl', hlen, hfs⟩ := DataW.trod_struct Tryd.underlying27 h
 rw [c36r] at hl'
 obtain ⟨y0, y1, y2, y3, y4, rfl⟩ : ∃ y0 y1 y2 y3 y4, xs = [y0, y1, y2, y3, y4] := by
  match xs, hlen with
  | [y0, y1, y2, y3, y4], _ => exact ⟨y0, y1, y2, y3, y4, rfl⟩
 have e0 : DataW.trod enc Tryd.prog W 0 (fun _ => true) true m 22 ((cs.drop 0).take (Tryd.prog.cellsOf 22)) = some y0 := hfs 0 _ rfl
 have e1 : DataW.trod enc Tryd.prog W 0 (fun _ => true) true m 22 ((cs.drop 1).take (Tryd.prog.cellsOf 22)) = some y1 := hfs 1 _ rfl
 have e2 : DataW.trod enc Tryd.prog W 0 (fun _ => true) true m 9 ((cs.drop 2).take (Tryd.prog.cellsOf 9)) = some y2 := hfs 2 _ rfl
 have e3 : DataW.trod enc Tryd.prog W 0 (fun _ => true) true m 24 ((cs.drop 3).take (Tryd.prog.cellsOf 24)) = some y3 := hfs 3 _ rfl
 have e4 : DataW.trod enc Tryd.prog W 0 (fun _ => true) true m 25 ((cs.drop 35).take (Tryd.prog.cellsOf 25)) = some y4 := hfs 4 _ rfl
 obtain ⟨a0, n0, c0, L0, k0, h0⟩ := slice_cells rnK Tryd.underlying22 c33n (fun h => named_cells h) e0
 obtain ⟨a1, n1, c1, L1, k1, h1⟩ := slice_cells rnK Tryd.underlying22 c33n (fun h => named_cells h) e1
 obtain ⟨s2, k2, _, _⟩ := DataW.trod_string Tryd.underlying9 e2
 obtain ⟨l, k3, k3'⟩ := id_cells e3
 obtain ⟨a4, n4, c4, L4, k4, h4⟩ := slice_cells enK Tryd.underlying25 c67e (fun h => entry_cells h) e4
 rw [c1n] at k0 k1
 rw [c1s] at k2
 rw [c32i] at k3'
 rw [c1e] at k4
 refine ⟨⟨a0, n0, c0, a1, n1, c1, a4, n4, c4⟩, ⟨L0, L1, s2.data.toList, l, L4⟩, ⟨h0, h1, h4, k3⟩, ?_⟩
 have h5 : cs.drop 35 = (cs.drop 35).take 1 := by rw [List.take_of_length_le (by simp; omega)]
 have hh : cs = (cs.drop 0).take 1 ++ ((cs.drop 1).take 1 ++ ((cs.drop 2).take 1 ++ ((cs.drop 3).take 32 ++ cs.drop 35))) := by rw [← cut1 cs 3 32, ← cut1 cs 2 1, ← cut1 cs 1 1, ← cut1 cs 0 1]; rfl
 rw [hh, h5, k0, k1, k2, k3', k4]
 unfold rfL
 rw [strB_of]; rfl
end
set_option maxRecDepth 100000 in
theorem open_refs_v {H : Type} {enc : TypeId × Value → H} {W : World} {base : Nat} {v : Value} {d : DataW H} {p : List MemPlace} (hv : Value.okWide Tryd.prog W .any base 27 v)
  (h : DataW.Trod enc Tryd.prog W 0 (fun _ => true) true 27 v d p) : ∃ (S : RfS) (r : RefsV), RfIn W S r ∧ v = .agg (rfC S r.head r.at_) := by
 have hs : ∃ cs, v = .agg cs := by
  simp only [Value.okWide, Tryd.underlying27] at hv
  obtain ⟨cs, h1, _⟩ := hv
  exact ⟨cs, h1⟩
 obtain ⟨cs, rfl⟩ := hs
 obtain ⟨fuel, hf⟩ := h
 obtain ⟨S, r, hI, hc⟩ := refs_cells hf
 refine ⟨S, r, hI, congrArg Value.agg ?_⟩
 rw [← Array.toList_inj, show (rfC S r.head r.at_).toList = rfL S r.head r.at_ from by simp [rfC]]
 exact hc
end Go.Proofs.YthihmlojdopmfaaDoor
