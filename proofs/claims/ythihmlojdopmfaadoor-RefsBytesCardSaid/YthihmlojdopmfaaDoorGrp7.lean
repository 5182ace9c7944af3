/-
  Merged: PathMath, OneG, Clash, UtfInv, UtfCheck, UtfNext, PathSmall, Named, EachSeen, EachNamed.
-/
import Derived.Test.YthihmlojdopmfaaDoorGrp5
import Derived.Test.YthihmlojdopmfaaDoorGrp1
import Derived.Lib.AtoiAll
import Derived.Lib.ItoaNum
import Derived.Lib.Bytealg
import Derived.WalkKit
import Derived.WalkSpells
import Derived.Laws.AppendOwnNone
import Derived.Laws.OwnMore
import Derived.Deep.LoopGhost
import Derived.Deep.QuietTactic
import Derived.BigQuiet
import Derived.WalkSmall
import Derived.Lib.Strings
import Derived.Test.YthihmlojdopmfaaDoorGrp6
import Derived.Lib.OthersKept
namespace Go.Proofs.YthihmlojdopmfaaDoor

def pcS (s : List UInt8) : Nat → List (List UInt8) × Nat
 | 0 => ([], 0)
 | i + 1 => if s.getD i 0 = 47 then ((pcS s i).1 ++ [(s.drop (pcS s i).2).take (i - (pcS s i).2)], i + 1) else pcS s i
def pcs (s : List UInt8) : List (List UInt8) := (pcS s s.length).1 ++ [s.drop (pcS s s.length).2]

def seenF (n : Nat) : Bool := decide (32 ≤ n) && decide (n ≠ 127)
def textOk (l : List UInt8) : Bool := match runesF l with | (some _, _) => true | (none, _) => false
def runesOk (l : List UInt8) : Bool := match runesF l with | (some L, _) => L.all seenF | (none, _) => false
def badPart (p : List UInt8) : Bool := p == [] || p == [46] || p == [46, 46]
def goodParts (l : List (List UInt8)) : Bool := l.all fun p => !badPart p
def pathF (s : List UInt8) : Bool := decide (1 ≤ s.length) && decide (s.length ≤ 64) && runesOk s && goodParts (pcs s)
def partsF (s : List UInt8) : List (List UInt8) := if pathF s = true then pcs s else []
def authorF (s : List UInt8) : Bool := decide (1 ≤ s.length) && decide (s.length ≤ 32) && runesOk s
def noteF (s : List UInt8) : Bool := decide (s.length ≤ 256) && textOk s
def bytesF (s : List UInt8) : Nat := if 4096 < s.length then 2 else if textOk s = true then 0 else 5
def nameC (n : Nat) : Bool := (decide (97 ≤ n) && decide (n ≤ 122)) || (decide (65 ≤ n) && decide (n ≤ 90)) || (decide (48 ≤ n) && decide (n ≤ 57)) || n == 45 || n == 95 || n == 46
def nameF (s : List UInt8) : Bool := decide (1 ≤ s.length) && decide (s.length ≤ 32) && s.all (fun c => nameC c.toNat) && s.getD 0 0 != 46 && s.getD 0 0 != 45 && s != [72, 69, 65, 68]

theorem textOk_some {l : List UInt8} {L : List Nat} {e : Nat} (h : runesF l = (some L, e)) : textOk l = true := by unfold textOk; rw [h]
theorem textOk_none {l : List UInt8} {e : Nat} (h : runesF l = (none, e)) : textOk l = false := by unfold textOk; rw [h]
def leadsF (a b : List UInt8) : Bool := (a ++ [47]).isPrefixOf b
def clashF (a b : List UInt8) : Bool := a == b || leadsF a b || leadsF b a
def clashesF (p : List UInt8) (l : List (List UInt8)) : Bool := l.any (clashF p)
def hdF (t : List UInt8) : List UInt8 := t.takeWhile (· != 47)
theorem hd_le (t : List UInt8) : (hdF t).length ≤ t.length := by
 have := congrArg List.length (List.takeWhile_append_dropWhile (p := (· != (47 : UInt8))) (l := t))
 rw [List.length_append] at this
 unfold hdF; omega
def numPF (s : List UInt8) (n : Nat) : List UInt8 := hdF s ++ 126 :: (Lib.decDigits n ++ s.drop (hdF s).length)
def startF (s : List UInt8) : List UInt8 := hdF s ++ [126]
def nbF (t start : List UInt8) : Int := if Lib.hasPrefix t start = true then (match Lib.atoiAll (hdF (t.drop start.length)) with | .ok v => if Lib.itoa v = hdF (t.drop start.length) then v else 0 | _ => 0) else 0

def FreshN (s : List UInt8) (ts : List (List UInt8)) (n : Nat) : Prop := 1 ≤ n ∧ clashesF (numPF s n) ts = false ∧ ∀ m, 1 ≤ m → m < n → clashesF (numPF s m) ts = true
def FreshR (s : List UInt8) (ts : List (List UInt8)) (r : List UInt8) : Prop := (clashesF s ts = false ∧ r = s) ∨ (clashesF s ts = true ∧ ∃ n, FreshN s ts n ∧ r = numPF s n)
theorem FreshR.free {s : List UInt8} {ts : List (List UInt8)} {r : List UInt8} (h : FreshR s ts r) : clashesF r ts = false := by
 rcases h with ⟨h1, rfl⟩ | ⟨h1, n, hn, rfl⟩
 ·exact h1
 ·exact hn.2.1
theorem num_length (s : List UInt8) (n : Nat) : s.length < (numPF s n).length := by
 have := hd_le s
 simp [numPF]; omega
theorem FreshR.same {s : List UInt8} {ts : List (List UInt8)} {r : List UInt8} (h : FreshR s ts r) : (r = s ↔ clashesF s ts = false) ∧ s.length ≤ r.length := by
 rcases h with ⟨h1, rfl⟩ | ⟨h1, n, hn, rfl⟩
 ·exact ⟨⟨fun _ => h1, fun _ => rfl⟩, Nat.le_refl _⟩
 ·have := num_length s n
  refine ⟨⟨fun e => ?_, fun e => ?_⟩, by omega⟩
  ·rw [e] at this; omega
  ·rw [h1] at e; cases e

end Go.Proofs.YthihmlojdopmfaaDoor

namespace Go.Proofs.YthihmlojdopmfaaDoor
open Go.RowKit

section
variable {α : Type} [Inhabited α] (mk : α → Value) (E : TypeId)

def At1 (w : World) (a : Option Addr) (n c : Nat) (L : List α) : Prop :=
 L.length = n ∧ n ≤ c ∧ c ≤ 9223372036854775807 ∧ ((n = 0 ∧ c = 0) ∨ ∃ b off, a = some ⟨b, off, none⟩ ∧ ∀ j, j < n → w.cell? ⟨b, off + j, none⟩ = some (mk (L.getD j default)))
def Own1 (w : World) (base : Nat) (v : Value) (L : List α) : Prop := w.ownsRow base E 1 v L.length (L.map mk)
end

section
variable {α : Type} {mk : α → Value} {E : TypeId} {w w' : World} {a : Option Addr} {n c base : Nat} {L : List α} {v : Value}

theorem At1.nil [Inhabited α] : At1 mk w none 0 0 [] := ⟨rfl, Nat.le_refl _, by omega, .inl ⟨rfl, rfl⟩⟩
theorem At1.below [Inhabited α] (h : At1 mk w a n c L) (hb : Below w.heap.size w w') : At1 mk w' a n c L := by
 obtain ⟨h1, h2, h3, h4⟩ := h
 refine ⟨h1, h2, h3, ?_⟩
 rcases h4 with h4 | ⟨b, off, ha, hc⟩
 ·exact .inl h4
 ·exact .inr ⟨b, off, ha, fun j hj => (hb.cell (World.block_lt_of_cell? _ _ (hc j hj))).trans (hc j hj)⟩
theorem At1.some_ [Inhabited α] (h : At1 mk w a n c L) (hn : 0 < n) : ∃ b off, a = some ⟨b, off, none⟩ := by
 rcases h.2.2.2 with ⟨h0, _⟩ | ⟨b, off, ha, _⟩
 ·omega
 ·exact ⟨b, off, ha⟩
theorem At1.cell [Inhabited α] {b off : Nat} (h : At1 mk w (some ⟨b, off, none⟩) n c L) (j : Nat) (hj : j < n) : w.cell? ⟨b, off + j, none⟩ = some (mk (L.getD j default)) := by
 rcases h.2.2.2 with ⟨h0, _⟩ | ⟨b', off', ha, hc⟩
 ·omega
 ·simp only [Option.some.injEq, Addr.mk.injEq, and_true] at ha
  obtain ⟨rfl, rfl⟩ := ha
  exact hc j hj

theorem Own1.nil : Own1 mk E w base (.slice none 0 0) [] := World.ownsRow_nil _ _ _ _
theorem Own1.at1_ [Inhabited α] (h : Own1 mk E w base v L) : ∃ a c, v = .slice a L.length c ∧ At1 mk w a L.length c L := by
 have h0 := h
 obtain ⟨h1, h2⟩ := h
 rcases h2 with ⟨rfl, hn⟩ | ⟨g, cap, cur, rfl, hb, hg, hn, hm, hs, ht⟩
 ·have : L = [] := List.length_eq_zero_iff.1 hn
  subst this
  exact ⟨none, 0, rfl, At1.nil⟩
 ·refine ⟨_, _, rfl, rfl, hn, by unfold maxLen at hm; omega, .inr ⟨g, 0, rfl, fun j hj => ?_⟩⟩
  have := h0.cells (g := g) rfl j (mk (L.getD j default)) (by rw [List.getElem?_map]; simp [hj])
  rw [Addr.add_lit] at this
  exact this
theorem Own1.at1 [Inhabited α] (h : Own1 mk E w base (.slice a n c) L) : At1 mk w a n c L := by
 obtain ⟨a', c', hv, hb⟩ := h.at1_
 simp only [Value.slice.injEq] at hv
 obtain ⟨rfl, rfl, rfl⟩ := hv
 exact hb
theorem Own1.alloc (h : Own1 mk E w base v L) (o : Obj) : Own1 mk E (w.alloc o) base v L := World.ownsRow.alloc h o
theorem Own1.lt (h : Own1 mk E w base v L) : ∀ k, v.ownBlock = some k → base ≤ k ∧ k < w.heap.size := World.ownsRow.lt h
theorem Own1.mono {base' : Nat} (h : Own1 mk E w base v L) (hb : base' ≤ base) : Own1 mk E w base' v L := by
 obtain ⟨h1, h2⟩ := h
 refine ⟨h1, ?_⟩
 rcases h2 with h2 | ⟨g, cap, cur, hv, hg, r⟩
 ·exact .inl h2
 ·exact .inr ⟨g, cap, cur, hv, by omega, r⟩
theorem Own1.below (h : Own1 mk E w base v L) (hb : Below w.heap.size w w') : Own1 mk E w' base v L := by
 obtain ⟨h1, h2⟩ := h
 refine ⟨h1, ?_⟩
 rcases h2 with h2 | ⟨g, cap, cur, hv, hg, hh, r⟩
 ·exact .inl h2
 ·refine .inr ⟨g, cap, cur, hv, hg, ?_, r⟩
  have hlt : g < w.heap.size := by
   rcases Nat.lt_or_ge g w.heap.size with h | h
   ·exact h
   ·rw [Array.getElem?_eq_none h] at hh; cases hh
  rw [hb.block g hlt]; exact hh
theorem Own1.kept {row : Option Nat} (h : Own1 mk E w base v L) (hg : w.grownBy w' row) (hne : v.ownBlock = none ∨ v.ownBlock ≠ row) : Own1 mk E w' base v L := World.ownsRow.kept h hg hne
theorem Own1.row [Inhabited α] (h : Own1 mk E w base (.slice a n c) L) (hn : 0 < n) : ∃ g, a = some ⟨g, 0, none⟩ ∧ base ≤ g ∧ g < w.heap.size ∧ L.length = n ∧ (∀ j, w.frozen? ⟨g, j, none⟩ = false) := by
 have h0 := h
 obtain ⟨h1, h2⟩ := h
 rcases h2 with ⟨hv, hz⟩ | ⟨g, cap, cur, hv, hb, hg, hle, hm, hs, ht⟩
 ·simp only [Value.slice.injEq] at hv; omega
 ·simp only [Value.slice.injEq] at hv
  obtain ⟨rfl, rfl, rfl⟩ := hv
  have hlt : g < w.heap.size := by
   rcases Nat.lt_or_ge g w.heap.size with h | h
   ·exact h
   ·rw [Array.getElem?_eq_none h] at hg; cases hg
  exact ⟨g, rfl, hb, hlt, rfl, fun j => World.ownsRow.frozenAt h0 j⟩
theorem Own1.store {g : Nat} (h : Own1 mk E w base (.slice (some ⟨g, 0, none⟩) n c) L) (hn : L.length = n) (j : Nat) (x : α) : Own1 mk E (w.setCell ⟨g, j, none⟩ (mk x)) base (.slice (some ⟨g, 0, none⟩) n c) (L.set j x) := by
 subst hn
 have := (World.ownsRow.stored h j (mk x)).1
 unfold Own1
 rw [List.length_set, List.map_set]
 exact this
theorem Own1.len [Inhabited α] (h : Own1 mk E w base (.slice a n c) L) : L.length = n := h.at1.1
end

def St (l : List UInt8) : Value := .string (strB l)
def Bo (b : Bool) : Value := .bool b
def N (i : Nat) : Value := .int .i64 (i : Int)
end Go.Proofs.YthihmlojdopmfaaDoor

namespace Go.Proofs.YthihmlojdopmfaaDoor
open Go.RowKit

theorem retBl {a b : Bool} (h : a = b) : Ending.returned (.bool a) = .returned (.bool b) := by rw [h]
theorem b_len (s : ByteArray) : s.data.toList.length = s.size := by simp
theorem b_at (s : ByteArray) (p : Nat) (h : p < s.size) : s[p]'h = s.data.toList.getD p 0 := by
 rw [List.getD_eq_getElem?_getD, List.getElem?_eq_getElem (by rw [b_len]; exact h)]; rfl
end Go.Proofs.YthihmlojdopmfaaDoor

namespace Go.Proofs.YthihmlojdopmfaaDoor

def Inv (l : List UInt8) (p : Nat) (acc : List Nat) : Prop := runesF l = runesGo l.length p acc (l.drop p)

theorem Inv.start (l : List UInt8) : Inv l 0 [] := by unfold Inv runesF; rw [List.drop_zero]
theorem Inv.step {l : List UInt8} {p n k : Nat} {acc : List Nat} (h : Inv l p acc) (hd : decF (l.drop p) = some (n, k)) : Inv l (p + k) (acc ++ [n]) := by
 unfold Inv at h ⊢
 rw [h, runesGo_step (by simp) hd, List.drop_drop]
theorem Inv.stop {l : List UInt8} {p : Nat} {acc : List Nat} (h : Inv l p acc) (hp : p < l.length) (hd : decF (l.drop p) = none) : runesF l = (none, p) := by
 unfold Inv at h
 rw [h, runesGo_stop (fun e => by have := congrArg List.length e; simp at this; omega) hd]
theorem Inv.done {l : List UInt8} {p : Nat} {acc : List Nat} (h : Inv l p acc) (hp : l.length ≤ p) : runesF l = (some acc, p) := by
 unfold Inv at h
 rw [h, List.drop_eq_nil_of_le hp, runesGo_nil]
theorem Inv.more {l L : List Nat} {s : List UInt8} {p e : Nat} (h : Inv s p l) (hs : runesF s = (some L, e)) (hp : p < s.length) : ∃ n k, decF (s.drop p) = some (n, k) := by
 cases hd : decF (s.drop p) with
 | none => rw [h.stop hp hd] at hs; simp at hs
 | some q => exact ⟨q.1, q.2, rfl⟩

def chkE (l : List UInt8) : Nat × Nat := match runesF l with | (some _, _) => (0, 0) | (none, p) => (p, 5)
theorem chkE_some {l : List UInt8} {L : List Nat} {e : Nat} (h : runesF l = (some L, e)) : chkE l = (0, 0) := by unfold chkE; rw [h]
theorem chkE_none {l : List UInt8} {p : Nat} (h : runesF l = (none, p)) : chkE l = (p, 5) := by unfold chkE; rw [h]
theorem runesF_cases (l : List UInt8) : (∃ L, runesF l = (some L, l.length)) ∨ ∃ p, runesF l = (none, p) := by
 rcases h : runesF l with ⟨_ | L, e⟩
 ·exact .inr ⟨e, rfl⟩
 ·have := (runesF_some h).2.2
  subst this
  exact .inl ⟨L, rfl⟩
end Go.Proofs.YthihmlojdopmfaaDoor

namespace Go.Proofs.YthihmlojdopmfaaDoor
open Go.RowKit

def ChkIs (r : Nat × Nat) (w : World) (e : Ending) (w' : World) : Prop := e = .returned (.tuple #[.int .i64 r.1, .int .i64 r.2]) ∧ Below w.heap.size w w'

theorem decode_some (s : ByteArray) (p n k : Nat) (V Z : Int) (w : World) (hs : s.size ≤ 140737488355328) (hT : Tabs w) (hp : p < s.size) (hd : decF (s.data.toList.drop p) = some (n, k)) (hV : V = (n : Int)) (hZ : Z = (p : Int) + (k : Int)) :
  Calls Tryd.prog 91 #[.string s, .int .i64 (p : Int)] w fun e w' => e = .returned (.tuple #[.int .i32 V, .int .i64 Z, .int .i64 0]) ∧ Below w.heap.size w w' :=
 (decode_any s p w hs hT).mono fun _ _ h => ⟨h.1.trans (by rw [decE_some (by rw [str_len]; exact hp) hd, hV, hZ]; rfl), h.2⟩
theorem decode_none (s : ByteArray) (p : Nat) (w : World) (hs : s.size ≤ 140737488355328) (hT : Tabs w) (hp : p < s.size) (hd : decF (s.data.toList.drop p) = none) :
  Calls Tryd.prog 91 #[.string s, .int .i64 (p : Int)] w fun e w' => e = .returned (.tuple #[.int .i32 0, .int .i64 0, .int .i64 5]) ∧ Below w.heap.size w w' :=
 (decode_any s p w hs hT).mono fun _ _ h => ⟨h.1.trans (by rw [decE_none (by rw [str_len]; exact hp) hd]; rfl), h.2⟩

set_option maxRecDepth 100000 in
set_option maxHeartbeats 1000000 in
theorem check_any (s : ByteArray) (w : World) (hs : s.size ≤ 140737488355328) (hT : Tabs w) :
  Calls Tryd.prog 87 #[.string s] w (ChkIs (chkE s.data.toList) w) := by
 have hsI : (s.size : Int) ≤ 140737488355328 := by omega
 have HS := Lib.hid hs
 have HT := Lib.hid hT
 have HI := Lib.hid (Inv.start s.data.toList)
 clear hT hs
 go_enter Tryd.func87, Tryd.ntmps87
 go_wp2
 go_loopg [2] s.size (fun g v2 W => ∃ (p : Nat) (acc : List Nat), Below w.heap.size w W ∧ v2 = .int .i64 p ∧ g + p = s.size ∧ Hid (Inv s.data.toList p acc))
 case atStart => exact ⟨0, [], Below.refl _ _, rfl, rfl, HI⟩
 case round =>
  obtain ⟨p, acc, hbw, rfl, hg, hinv⟩ := hrel
  have HG := Lib.hid hg
  have HTW := Lib.hid (HT.out.below hbw)
  have hpI2 : (p : Int) ≤ (s.size : Int) := by omega
  by_cases hp : (p : Int) < (s.size : Int)
  ·cases hd : decF (s.data.toList.drop p) with
   | none =>
    have HE := Lib.hid (chkE_none (hinv.out.stop (by rw [str_len]; omega) hd))
    have HC := Lib.hid (decode_none s p wr HS.out HTW.out (by omega) hd)
    clear hd hg
    go_wp2_with (go_at_call 91; go_must (refine HC.out.mono ?_); rintro e w1 ⟨rfl, hb⟩)
    go_ret2
    rw [HE.out]
    exact ⟨rfl, hbw.trans (hb.mono hbw.size)⟩
   | some q =>
    obtain ⟨n, k⟩ := q
    obtain ⟨hn, hk1, hk4, hkl⟩ := dec_bounds hd
    have HK := Lib.hid (show 1 ≤ k ∧ k ≤ s.size - p from ⟨hk1, by simpa using hkl⟩)
    have HI2 := Lib.hid (hinv.out.step hd)
    obtain ⟨V, hV⟩ : ∃ V : Int, V = (n : Int) := ⟨_, rfl⟩
    obtain ⟨Z, hZ⟩ : ∃ Z : Int, Z = (p : Int) + (k : Int) := ⟨_, rfl⟩
    have HZ := Lib.hid hZ
    have HC := Lib.hid (decode_some s p n k V Z wr HS.out HTW.out (by omega) hd hV hZ)
    clear hd hg hn hk1 hk4 hkl hV hZ
    go_wp2_with (go_at_call 91; go_must (refine HC.out.mono ?_); rintro e w1 ⟨rfl, hb⟩)
    go_roundg (gk - k)
    case measure => have := HG.out; have := HK.out; omega
    case rel => exact ⟨p + k, _, hbw.trans (hb.mono hbw.size), by rw [HZ.out]; rfl, by have := HG.out; have := HK.out; omega, HI2⟩
  ·have HE := Lib.hid (chkE_some (hinv.out.done (by rw [str_len]; omega)))
   clear hg
   go_wp2
   go_ret2
   rw [HE.out]
   exact ⟨rfl, hbw⟩
end Go.Proofs.YthihmlojdopmfaaDoor

namespace Go.Proofs.YthihmlojdopmfaaDoor
open Go.RowKit

theorem check_some (s : ByteArray) (L : List Nat) (e0 : Nat) (w : World) (hs : s.size ≤ 140737488355328) (hT : Tabs w) (h : runesF s.data.toList = (some L, e0)) :
  Calls Tryd.prog 87 #[.string s] w fun e w' => e = .returned (.tuple #[.int .i64 0, .int .i64 0]) ∧ Below w.heap.size w w' :=
 (check_any s w hs hT).mono fun _ _ h1 => ⟨h1.1.trans (by rw [chkE_some h]; rfl), h1.2⟩
theorem check_none (s : ByteArray) (p : Nat) (w : World) (hs : s.size ≤ 140737488355328) (hT : Tabs w) (h : runesF s.data.toList = (none, p)) :
  Calls Tryd.prog 87 #[.string s] w fun e w' => e = .returned (.tuple #[.int .i64 p, .int .i64 5]) ∧ Below w.heap.size w w' :=
 (check_any s w hs hT).mono fun _ _ h1 => ⟨h1.1.trans (by rw [chkE_none h]; rfl), h1.2⟩

def cntE (l : List UInt8) : Nat × Nat := match runesF l with | (some L, _) => (L.length, 0) | (none, _) => (0, 5)
end Go.Proofs.YthihmlojdopmfaaDoor

namespace Go.Proofs.YthihmlojdopmfaaDoor
open Go.RowKit

set_option maxRecDepth 100000 in
set_option maxHeartbeats 400000 in
theorem sized_is (s : ByteArray) (lo hi : Int) (c : Bool) (w : World) (h : (decide (lo ≤ (s.size : Int)) && decide ((s.size : Int) ≤ hi)) = c) :
  Calls Tryd.prog 70 #[.string s, .int .i64 lo, .int .i64 hi] w fun e w' => e = .returned (.bool c) ∧ w = w' := by
 by_cases h1 : lo ≤ (s.size : Int)
 ·by_cases h2 : (s.size : Int) ≤ hi
  ·have HC := Lib.hid (show c = true by rw [← h, decide_eq_true h1, decide_eq_true h2]; rfl)
   clear h
   go_enter Tryd.func70, Tryd.ntmps70
   go_wp2
   go_ret
   exact ⟨retBl HC.out.symm, rfl⟩
  ·have HC := Lib.hid (show c = false by rw [← h, decide_eq_true h1, decide_eq_false h2]; rfl)
   clear h
   go_enter Tryd.func70, Tryd.ntmps70
   go_wp2
   go_ret
   exact ⟨retBl HC.out.symm, rfl⟩
 ·have HC := Lib.hid (show c = false by rw [← h, decide_eq_false h1]; rfl)
  clear h
  go_enter Tryd.func70, Tryd.ntmps70
  go_wp2
  go_ret
  exact ⟨retBl HC.out.symm, rfl⟩

set_option maxRecDepth 100000 in
set_option maxHeartbeats 400000 in
theorem text_any (s : ByteArray) (w : World) (hs : s.size ≤ 140737488355328) (hT : Tabs w) :
  Calls Tryd.prog 71 #[.string s] w fun e w' => e = .returned (.bool (textOk s.data.toList)) ∧ Below w.heap.size w w' := by
 rcases runesF_cases s.data.toList with ⟨L, hL⟩ | ⟨p, hL⟩
 ·have HC := Lib.hid (check_some s L _ w hs hT hL)
  have HE := Lib.hid (textOk_some hL)
  clear hs hT hL
  go_enter Tryd.func71, Tryd.ntmps71
  go_wp2_with (go_at_call 87; (with_reducible refine HC.out.mono ?_); rintro e w1 ⟨rfl, hb⟩)
  go_ret
  exact ⟨retBl HE.out.symm, hb⟩
 ·have HC := Lib.hid (check_none s p w hs hT hL)
  have HE := Lib.hid (textOk_none hL)
  clear hs hT hL
  go_enter Tryd.func71, Tryd.ntmps71
  go_wp2_with (go_at_call 87; (with_reducible refine HC.out.mono ?_); rintro e w1 ⟨rfl, hb⟩)
  go_ret
  exact ⟨retBl HE.out.symm, hb⟩

end Go.Proofs.YthihmlojdopmfaaDoor

namespace Go.Proofs.YthihmlojdopmfaaDoor
open Go.RowKit

theorem nameC_iff (n : Nat) : nameC n = true ↔ (97 ≤ n ∧ n ≤ 122) ∨ (65 ≤ n ∧ n ≤ 90) ∨ (48 ≤ n ∧ n ≤ 57) ∨ n = 45 ∨ n = 95 ∨ n = 46 := by
 simp [nameC]; omega

set_option maxRecDepth 100000 in
set_option maxHeartbeats 1000000 in
theorem named_is (n : Nat) (c : Bool) (w : World) (h : nameC n = c) : Calls Tryd.prog 82 #[.int .i32 n] w fun e w' => e = .returned (.bool c) ∧ w = w' := by
 have HC := Lib.hid (show c = true ↔ _ from h ▸ nameC_iff n)
 clear h
 go_enter Tryd.func82, Tryd.ntmps82
 go_wp2
 all_goals
  go_ret
  refine ⟨retBl ?_, rfl⟩
  rw [Bool.eq_iff_iff, HC.out]
  simp
  omega
end Go.Proofs.YthihmlojdopmfaaDoor

namespace Go.Proofs.YthihmlojdopmfaaDoor
open Go.RowKit

end Go.Proofs.YthihmlojdopmfaaDoor

namespace Go.Proofs.YthihmlojdopmfaaDoor
open Go.RowKit

theorem decR_big {l : List UInt8} {c : UInt8} (hl : l.head? = some c) (hc : 128 ≤ c.toNat) : 128 ≤ (decR l).1 := by
 cases hd : decF l with
 | none => rw [decR_none hd]; decide
 | some q =>
  obtain ⟨n, k⟩ := q
  rw [decR_some hd]
  obtain ⟨hm, hk, hkl, ht⟩ := decF_some hd
  show 128 ≤ n
  apply Classical.byContradiction
  intro h
  have he : encF n = [UInt8.ofNat n] := by unfold encF; rw [if_pos (by omega)]
  rw [he] at hk ht
  simp at hk
  subst hk
  cases l with
  | nil => cases hl
  | cons x r =>
   simp at hl ht
   subst hl
   rw [ht, ofNat_toNat n (by omega)] at hc
   omega
theorem take_all {q : UInt8 → Bool} {l : List UInt8} {p : Nat} (hp : p < l.length) : (l.take (p + 1)).all q = ((l.take p).all q && q (l.getD p 0)) := by
 rw [List.take_succ_eq_append_getElem hp, List.all_append]; simp [hp]
theorem all_no {q : UInt8 → Bool} {l : List UInt8} {p : Nat} (hp : p < l.length) (h : q (l.getD p 0) = false) : l.all q = false := by
 rw [← List.take_append_drop (p + 1) l, List.all_append, take_all hp, h]; simp

def nmB (c : UInt8) : Bool := nameC c.toNat

set_option maxRecDepth 100000 in
set_option maxHeartbeats 400000 in
theorem each_named (s : ByteArray) (w : World) :
  Calls Tryd.prog 83 #[.string s, .func (.func 82) #[] #[]] w fun e w' => e = .returned (.bool (s.data.toList.all nmB)) ∧ Below w.heap.size w w' := by
 have HA := Lib.hid (show (s.data.toList.take 0).all nmB = true from rfl)
 go_enter Tryd.func83, Tryd.ntmps83
 go_wp2
 go_loopg [] s.size (fun g W => ∃ (p : Nat), Below w.heap.size w W ∧ W.heap[w.heap.size]? = some (.stringIter s p) ∧ g + p = s.size ∧ Hid ((s.data.toList.take p).all nmB = true))
 case atStart => exact ⟨0, (Below.refl _ _).alloc (Nat.le_refl _) _, World.iter_heap w s 0, rfl, HA⟩
 case round =>
  obtain ⟨p, hbw, hit, hg, hall⟩ := hrel
  have HG := Lib.hid hg
  by_cases hp : p < s.size
  ·have hpl : p < s.data.toList.length := by rw [b_len]; exact hp
   have hat := b_at s p hp
   by_cases h128 : (s[p]'hp).toNat < 128
   ·have hnx := fun ty => Lib.run_next_ascii_at (P := Tryd.prog) wr w.heap.size s p ty hit hp h128
    have HIT := Lib.hid (Lib.iterAt_heap wr w.heap.size s p (p + 1) hit)
    have HB2 := Lib.hid (Lib.below_iterAt hbw (k := w.heap.size) (Nat.le_refl _) s (p + 1))
    obtain ⟨n, hn⟩ : ∃ n, n = (s[p]'hp).toNat := ⟨_, rfl⟩
    rw [← hn] at hnx
    obtain ⟨f, hf⟩ : ∃ f, nameC n = f := ⟨_, rfl⟩
    have HC := Lib.hid (fun w => named_is n f w hf)
    have HF := Lib.hid (show nmB (s.data.toList.getD p 0) = f by unfold nmB; rw [← hat, ← hn, hf])
    have HPL := Lib.hid hpl
    clear hg hit hp hf hn hat h128 hpl
    rcases f
    ·have HE := Lib.hid (all_no HPL.out HF.out)
     go_wp2_with (go_at_call 82; (with_reducible refine (HC.out _).mono ?_); rintro e w1 ⟨rfl, rfl⟩)
     go_ret
     exact ⟨retBl HE.out.symm, HB2.out⟩
    ·have HE := Lib.hid (show (s.data.toList.take (p + 1)).all nmB = true by rw [take_all HPL.out, hall.out, HF.out]; rfl)
     go_wp2_with (go_at_call 82; (with_reducible refine (HC.out _).mono ?_); rintro e w1 ⟨rfl, rfl⟩)
     go_roundg (gk - 1)
     case measure => have := HG.out; have := HPL.out; rw [b_len] at this; omega
     case rel => exact ⟨p + 1, HB2.out, HIT.out, by have := HG.out; have := HPL.out; rw [b_len] at this; omega, HE⟩
   ·have hnx0 := fun ty => Lib.run_next_any_at (P := Tryd.prog) wr w.heap.size s p ty hit hp
    rw [decode_drop s p hp] at hnx0
    have hbig : 128 ≤ (decR (s.data.toList.drop p)).1 := decR_big (c := s[p]'hp) (by rw [List.head?_drop, List.getElem?_eq_getElem hpl]; rfl) (by omega)
    obtain ⟨n, hn⟩ : ∃ n, n = (decR (s.data.toList.drop p)).1 := ⟨_, rfl⟩
    obtain ⟨k, hk⟩ : ∃ k, k = (decR (s.data.toList.drop p)).2 := ⟨_, rfl⟩
    rw [← hn, ← hk] at hnx0
    rw [← hn] at hbig
    have hnx := hnx0
    have HB2 := Lib.hid (Lib.below_iterAt hbw (k := w.heap.size) (Nat.le_refl _) s (p + k))
    have HC := Lib.hid (fun w => named_is n false w (by rw [Bool.eq_false_iff]; intro h; have := (nameC_iff n).1 h; omega))
    have HF := Lib.hid (show nmB (s.data.toList.getD p 0) = false by unfold nmB; rw [← hat, Bool.eq_false_iff]; intro h; have := (nameC_iff _).1 h; omega)
    have HE := Lib.hid (all_no hpl HF.out)
    clear hg hit hp hn hk hat h128 hpl hnx0 hbig
    go_wp2_with (go_at_call 82; (with_reducible refine (HC.out _).mono ?_); rintro e w1 ⟨rfl, rfl⟩)
    go_ret
    exact ⟨retBl HE.out.symm, HB2.out⟩
  ·have hnx := fun ty => Lib.run_next_end_at (P := Tryd.prog) wr w.heap.size s p ty hit hp
   have HE := Lib.hid (show s.data.toList.all nmB = true by
    have := hall.out
    rw [List.take_of_length_le (by rw [b_len]; omega)] at this
    exact this)
   clear hg hp hit
   go_wp2
   go_ret
   exact ⟨retBl HE.out.symm, hbw⟩
end Go.Proofs.YthihmlojdopmfaaDoor
