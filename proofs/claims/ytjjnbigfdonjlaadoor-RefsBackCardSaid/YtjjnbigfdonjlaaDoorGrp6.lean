/-
  Merged: OneG, Clash, UtfInv, UtfCheck, UtfNext, PathSmall, Named, EachSeen.
-/
import Derived.Test.YtjjnbigfdonjlaaDoorBytes
import Derived.WalkKit
import Derived.WalkSpells
import Derived.Laws.AppendOwnNone
import Derived.Laws.OwnMore
import Derived.Deep.LoopGhost
import Derived.Deep.QuietTactic
import Derived.BigQuiet
import Derived.WalkSmall
import Derived.Test.YtjjnbigfdonjlaaDoorPathMath
import Derived.Lib.Strings
import Derived.Test.YtjjnbigfdonjlaaDoorGrp4
import Derived.Test.YtjjnbigfdonjlaaDoorGrp5
import Derived.Lib.OthersKept
namespace Go.Proofs.YtjjnbigfdonjlaaDoor
open Go.RowKit

section
variable {α : Type} [Inhabited α] (mk : α → Value) (E : TypeId)

/-- A slice value reads as these. -/
def At1 (w : World) (a : Option Addr) (n c : Nat) (L : List α) : Prop :=
  L.length = n ∧ n ≤ c ∧ c ≤ 9223372036854775807 ∧ ((n = 0 ∧ c = 0) ∨ ∃ b off, a = some ⟨b, off, none⟩ ∧ ∀ j, j < n → w.cell? ⟨b, off + j, none⟩ = some (mk (L.getD j default)))
/-- A value that owns these, in memory from a block on. -/
def Own1 (w : World) (base : Nat) (v : Value) (L : List α) : Prop := w.ownsRow base E 1 v L.length (L.map mk)
end

section
variable {α : Type} {mk : α → Value} {E : TypeId} {w w' : World} {a : Option Addr} {n c base : Nat} {L : List α} {v : Value}

theorem At1.nil [Inhabited α] : At1 mk w none 0 0 [] := ⟨rfl, Nat.le_refl _, by omega, .inl ⟨rfl, rfl⟩⟩
theorem At1.below [Inhabited α] (h : At1 mk w a n c L) (hb : Below w.heap.size w w') : At1 mk w' a n c L := by
  obtain ⟨h1, h2, h3, h4⟩ := h
  refine ⟨h1, h2, h3, ?_⟩
  rcases h4 with h4 | ⟨b, off, ha, hc⟩
  · exact .inl h4
  · exact .inr ⟨b, off, ha, fun j hj => (hb.cell (World.block_lt_of_cell? _ _ (hc j hj))).trans (hc j hj)⟩
theorem At1.some_ [Inhabited α] (h : At1 mk w a n c L) (hn : 0 < n) : ∃ b off, a = some ⟨b, off, none⟩ := by
  rcases h.2.2.2 with ⟨h0, _⟩ | ⟨b, off, ha, _⟩
  · omega
  · exact ⟨b, off, ha⟩
theorem At1.cell [Inhabited α] {b off : Nat} (h : At1 mk w (some ⟨b, off, none⟩) n c L) (j : Nat) (hj : j < n) : w.cell? ⟨b, off + j, none⟩ = some (mk (L.getD j default)) := by
  rcases h.2.2.2 with ⟨h0, _⟩ | ⟨b', off', ha, hc⟩
  · omega
  · simp only [Option.some.injEq, Addr.mk.injEq, and_true] at ha
    obtain ⟨rfl, rfl⟩ := ha
    exact hc j hj

theorem Own1.nil : Own1 mk E w base (.slice none 0 0) [] := World.ownsRow_nil _ _ _ _
theorem Own1.at1_ [Inhabited α] (h : Own1 mk E w base v L) : ∃ a c, v = .slice a L.length c ∧ At1 mk w a L.length c L := by
  have h0 := h
  obtain ⟨h1, h2⟩ := h
  rcases h2 with ⟨rfl, hn⟩ | ⟨g, cap, cur, rfl, hb, hg, hn, hm, hs, ht⟩
  · have : L = [] := List.length_eq_zero_iff.1 hn
    subst this
    exact ⟨none, 0, rfl, At1.nil⟩
  · refine ⟨_, _, rfl, rfl, hn, by unfold maxLen at hm; omega, .inr ⟨g, 0, rfl, fun j hj => ?_⟩⟩
    have := h0.cells (g := g) rfl j (mk (L.getD j default)) (by rw [List.getElem?_map]; simp [hj])
    rw [Addr.add_lit] at this
    exact this
theorem Own1.at1 [Inhabited α] (h : Own1 mk E w base (.slice a n c) L) : At1 mk w a n c L := by
  obtain ⟨a', c', hv, hb⟩ := h.at1_
  simp only [Value.slice.injEq] at hv
  obtain ⟨rfl, rfl, rfl⟩ := hv
  exact hb
theorem Own1.alloc (h : Own1 mk E w base v L) (o : Obj) : Own1 mk E (w.alloc o) base v L := World.ownsRow.alloc h o
theorem Own1.lt (h : Own1 mk E w base v L) : ∀ k, v.ownBlock = some k → base ≤ k ∧ k < w.heap.size := World.ownsRow.lt h
theorem Own1.mono {base' : Nat} (h : Own1 mk E w base v L) (hb : base' ≤ base) : Own1 mk E w base' v L := by
  obtain ⟨h1, h2⟩ := h
  refine ⟨h1, ?_⟩
  rcases h2 with h2 | ⟨g, cap, cur, hv, hg, r⟩
  · exact .inl h2
  · exact .inr ⟨g, cap, cur, hv, by omega, r⟩
theorem Own1.below (h : Own1 mk E w base v L) (hb : Below w.heap.size w w') : Own1 mk E w' base v L := by
  obtain ⟨h1, h2⟩ := h
  refine ⟨h1, ?_⟩
  rcases h2 with h2 | ⟨g, cap, cur, hv, hg, hh, r⟩
  · exact .inl h2
  · refine .inr ⟨g, cap, cur, hv, hg, ?_, r⟩
    have hlt : g < w.heap.size := by
      rcases Nat.lt_or_ge g w.heap.size with h | h
      · exact h
      · rw [Array.getElem?_eq_none h] at hh; cases hh
    rw [hb.block g hlt]; exact hh
theorem Own1.kept {row : Option Nat} (h : Own1 mk E w base v L) (hg : w.grownBy w' row) (hne : v.ownBlock = none ∨ v.ownBlock ≠ row) : Own1 mk E w' base v L := World.ownsRow.kept h hg hne
theorem Own1.row [Inhabited α] (h : Own1 mk E w base (.slice a n c) L) (hn : 0 < n) : ∃ g, a = some ⟨g, 0, none⟩ ∧ base ≤ g ∧ g < w.heap.size ∧ L.length = n ∧ (∀ j, w.frozen? ⟨g, j, none⟩ = false) := by
  have h0 := h
  obtain ⟨h1, h2⟩ := h
  rcases h2 with ⟨hv, hz⟩ | ⟨g, cap, cur, hv, hb, hg, hle, hm, hs, ht⟩
  · simp only [Value.slice.injEq] at hv; omega
  · simp only [Value.slice.injEq] at hv
    obtain ⟨rfl, rfl, rfl⟩ := hv
    have hlt : g < w.heap.size := by
      rcases Nat.lt_or_ge g w.heap.size with h | h
      · exact h
      · rw [Array.getElem?_eq_none h] at hg; cases hg
    exact ⟨g, rfl, hb, hlt, rfl, fun j => World.ownsRow.frozenAt h0 j⟩
theorem Own1.store {g : Nat} (h : Own1 mk E w base (.slice (some ⟨g, 0, none⟩) n c) L) (hn : L.length = n) (j : Nat) (x : α) : Own1 mk E (w.setCell ⟨g, j, none⟩ (mk x)) base (.slice (some ⟨g, 0, none⟩) n c) (L.set j x) := by
  subst hn
  have := (World.ownsRow.stored h j (mk x)).1
  unfold Own1
  rw [List.length_set, List.map_set]
  exact this
theorem Own1.len [Inhabited α] (h : Own1 mk E w base (.slice a n c) L) : L.length = n := h.at1.1
end

/-- An append to what is the call's own, of one cell each. -/
theorem app1 {α : Type} [Inhabited α] (mk : α → Value) (h1c : ∀ x, (mk x).oneCell' = true) {T E : TypeId} {z : Value} {by_ : Nat} (hU : Tryd.prog.underlying T = some (.slice E)) (hI : (Tryd.prog.info? E).map (fun i => (i.zero, i.size, i.bytes)) = some (some z, 1, by_)) (hz : z.cells.size = 1)
    {w : World} {ops : Array Oper} {rest : List Oper} {o : Oper} {a : Act} {Q : Exit → Act → World → Prop} (hgd : o.guard = none) (s x : Operand)
    (ho : o.op = .call { callee := .builtin .append, args := #[s, x], argTypes := #[T, T] })
    (base : Nat) (v : Value) (l : List α) (hs : a.eval s = v) (hown : Own1 mk E w base v l)
    (sa : Option Addr) (m c : Nat) (src : List α) (hx : a.eval x = .slice sa m c) (hsrc : At1 mk w sa m c src)
    (h48 : (l.length + m) * (by_ + 1) ≤ 140737488355328) (hbase : base ≤ w.heap.size) (r : Nat) (hr : r = l.length + m)
    (h : ∀ a' c' w', Own1 mk E w' base (.slice a' r c') (l ++ src) → w.grownBy w' v.ownBlock → wpList Tryd.prog ops Q rest (a.put o.dst (.slice a' r c')) w') : wpList Tryd.prog ops Q (o :: rest) a w := by
  obtain ⟨i0, hi, hz0, hz1, hz2⟩ := info_parts hI
  obtain ⟨h1, h2, h3, h4⟩ := hsrc
  have fin : ∀ v' w', Own1 mk E w' base v' (l ++ src) → w.grownBy w' v.ownBlock → wpList Tryd.prog ops Q rest (a.put o.dst v') w' := by
    intro v' w' ho hg
    obtain ⟨a', c', rfl, _⟩ := ho.at1_
    have e : (l ++ src).length = r := by rw [List.length_append, h1, hr]
    rw [e] at ho ⊢
    exact h a' c' w' ho hg
  have e48 : (l.length + m) * by_ ≤ 140737488355328 := Nat.le_trans (Nat.mul_le_mul_left _ (by omega)) h48
  have e63 : l.length + m ≤ 140737488355328 := Nat.le_trans (Nat.le_mul_of_pos_right _ (by omega)) h48
  rcases h4 with ⟨rfl, rfl⟩ | ⟨b, off, rfl, hc⟩
  · have : src = [] := List.length_eq_zero_iff.1 h1
    subst this
    cases sa with
    | none =>
      refine wpList_append_own_none hgd s x T ho base E i0 1 hU hi v l.length (l.map mk) hs hown hx ?_
      exact fin v w (by rw [List.append_nil]; exact hown) ⟨rfl, rfl, rfl, Nat.le_refl _, fun _ _ _ => rfl⟩
    | some ad =>
      refine wpList_append_own w hgd s x T ho base E i0 z 1 by_ hU hi hz0 hz1 hz2 hz (by decide) v l.length (l.map mk) hs hown
        ad 0 0 [] hx (by simp) (by simp) (by simp) (by unfold maxLen; omega) (by omega) hbase ?_
      intro v' w' h5 h6 _
      exact fin v' w' (by rw [List.append_nil]; simpa [Own1] using h5) h6
  · refine wpList_append_own w hgd s x T ho base E i0 z 1 by_ hU hi hz0 hz1 hz2 hz (by decide) v l.length (l.map mk) hs hown
      ⟨b, off, none⟩ m c (src.map mk) hx (by simp [h1]) ?_ ?_ (by unfold maxLen; omega) (by omega) hbase ?_
    · intro j u hu
      rw [List.getElem?_map] at hu
      have hj : j < src.length := by
        rcases Nat.lt_or_ge j src.length with h | h
        · exact h
        · rw [List.getElem?_eq_none h] at hu; cases hu
      have := hc j (by omega)
      simp only [List.getElem?_eq_getElem hj, Option.map_some, Option.some.injEq] at hu
      subst hu
      rw [Addr.add_lit, this]
      simp [hj]
    · intro u hu
      obtain ⟨x, _, rfl⟩ := List.mem_map.1 hu
      exact h1c x
    · intro v' w' h5 h6 _
      refine fin v' w' ?_ h6
      unfold Own1
      rw [List.length_append, List.map_append, h1]
      exact h5

/-- 'make' of so many elements of one cell. -/
theorem make1 {α : Type} (mk : α → Value) {T E : TypeId} {by_ : Nat} {z0 : α} (hU : Tryd.prog.underlying T = some (.slice E)) (hI : (Tryd.prog.info? E).map (fun i => (i.zero, i.size, i.bytes)) = some (some (mk z0), 1, by_)) (hmk : (mk z0).cells = #[mk z0])
    {w : World} {ops : Array Oper} {rest : List Oper} {o : Oper} {a : Act} {Q : Exit → Act → World → Prop} (hgd : o.guard = none) (x y : Operand) (ho : o.op = Op.makeSlice T x y)
    (n : Nat) (hx : a.eval x = .int .i64 (n : Int)) (hy : a.eval y = .int .i64 (n : Int)) (hn : n ≤ 1000000000) (hb : by_ ≤ 1000)
    (h : ∀ w', Own1 mk E w' w.heap.size (.slice (some ⟨w.heap.size, 0, none⟩) n n) (List.replicate n z0) → w.grownBy w' none → wpList Tryd.prog ops Q rest (a.put o.dst (.slice (some ⟨w.heap.size, 0, none⟩) n n)) w') : wpList Tryd.prog ops Q (o :: rest) a w := by
  obtain ⟨i0, hi, hz0, hz1, hz2⟩ := info_parts hI
  have h48 : n * by_ ≤ 1000000000 * 1000 := Nat.mul_le_mul hn hb
  refine wpList_make_full w hgd x y _ ho w.heap.size E i0 (mk z0) 1 hU hi hz0 hz1 .i64 .i64 _ _ n hx hy rfl rfl (by rw [hz2, Nat.mul_comm]; omega) (by unfold maxLen; omega) (Nat.le_refl _) ?_
  intro w' h1 h2
  refine h w' ?_ h2
  unfold Own1
  rw [List.length_replicate, List.map_replicate]
  have e : (madeCells (mk z0).cells (n * 1)).toList = List.replicate n (mk z0) := by
    rw [hmk]
    apply List.ext_getElem
    · simp [madeCells]
    · intro i h3 h4
      simp [madeCells, Nat.mod_one]
  rw [← e]
  exact h1

/-- A string; a bool. -/
def St (l : List UInt8) : Value := .string (strB l)
def Bo (b : Bool) : Value := .bool b
theorem infoSt : (Tryd.prog.info? 9).map (fun i => (i.zero, i.size, i.bytes)) = some (some (St []), 1, 16) := by kernel_rfl
theorem infoBo : (Tryd.prog.info? 4).map (fun i => (i.zero, i.size, i.bytes)) = some (some (Bo false), 1, 1) := by kernel_rfl
/-- An int. -/
def N (i : Nat) : Value := .int .i64 (i : Int)
theorem infoN : (Tryd.prog.info? 3).map (fun i => (i.zero, i.size, i.bytes)) = some (some (N 0), 1, 8) := by kernel_rfl
#print axioms app1
#print axioms make1
end Go.Proofs.YtjjnbigfdonjlaaDoor

namespace Go.Proofs.YtjjnbigfdonjlaaDoor
open Go.RowKit

theorem retBl {a b : Bool} (h : a = b) : Ending.returned (.bool a) = .returned (.bool b) := by rw [h]
theorem b_len (s : ByteArray) : s.data.toList.length = s.size := by simp
theorem b_at (s : ByteArray) (p : Nat) (h : p < s.size) : s[p]'h = s.data.toList.getD p 0 := by
  rw [List.getD_eq_getElem?_getD, List.getElem?_eq_getElem (by rw [b_len]; exact h)]; rfl
theorem b_ext (s : ByteArray) (p q : Nat) : (s.extract p q).data.toList = (s.data.toList.drop p).take (q - p) := by
  simp [ByteArray.data_extract, Array.toList_extract, List.extract]
theorem b_eq (x y : ByteArray) : (x.toList == y.toList) = (x.data.toList == y.data.toList) := by rw [Lib.toList_data, Lib.toList_data]
theorem b_app (x y : ByteArray) : (x ++ y).data.toList = x.data.toList ++ y.data.toList := by simp
theorem b_ext_eq (b a : ByteArray) : ((b.extract 0 a.size).toList == a.toList) = (b.data.toList.take a.data.toList.length == a.data.toList) := by
  rw [b_eq, b_ext, List.drop_zero, b_len, Nat.sub_zero]
theorem byte47 {c : UInt8} : ((c.toNat : Int) = 47) ↔ c = 47 := by
  constructor
  · intro h; apply UInt8.toNat_inj.1; show c.toNat = 47; omega
  · rintro rfl; rfl

end Go.Proofs.YtjjnbigfdonjlaaDoor

namespace Go.Proofs.YtjjnbigfdonjlaaDoor

/-- So far these runes stand there, and so many bytes are read. -/
def Inv (l : List UInt8) (p : Nat) (acc : List Nat) : Prop := runesF l = runesGo l.length p acc (l.drop p)

theorem Inv.start (l : List UInt8) : Inv l 0 [] := by unfold Inv runesF; rw [List.drop_zero]
theorem Inv.step {l : List UInt8} {p n k : Nat} {acc : List Nat} (h : Inv l p acc) (hd : decF (l.drop p) = some (n, k)) : Inv l (p + k) (acc ++ [n]) := by
  unfold Inv at h ⊢
  rw [h, runesGo_step (by simp) hd, List.drop_drop]
theorem Inv.stop {l : List UInt8} {p : Nat} {acc : List Nat} (h : Inv l p acc) (hp : p < l.length) (hd : decF (l.drop p) = none) : runesF l = (none, p) := by
  unfold Inv at h
  rw [h, runesGo_stop (fun e => by have := congrArg List.length e; simp at this; omega) hd]
theorem Inv.done {l : List UInt8} {p : Nat} {acc : List Nat} (h : Inv l p acc) (hp : l.length ≤ p) : runesF l = (some acc, p) := by
  unfold Inv at h
  rw [h, List.drop_eq_nil_of_le hp, runesGo_nil]
theorem Inv.more {l L : List Nat} {s : List UInt8} {p e : Nat} (h : Inv s p l) (hs : runesF s = (some L, e)) (hp : p < s.length) : ∃ n k, decF (s.drop p) = some (n, k) := by
  cases hd : decF (s.drop p) with
  | none => rw [h.stop hp hd] at hs; simp at hs
  | some q => exact ⟨q.1, q.2, rfl⟩

/-- As many runes as have been read are the first of all. -/
theorem Inv.pre {s : List UInt8} {p e : Nat} {acc L : List Nat} (h : Inv s p acc) (hs : runesF s = (some L, e)) : ∃ m, L = acc ++ m := by
  unfold Inv at h
  rw [hs] at h
  obtain ⟨m, hm, _⟩ := runesGo_some _ _ _ _ _ _ h.symm
  exact ⟨m, hm⟩

/-- What Check answers. -/
def chkE (l : List UInt8) : Nat × Nat := match runesF l with | (some _, _) => (0, 0) | (none, p) => (p, 5)
theorem chkE_some {l : List UInt8} {L : List Nat} {e : Nat} (h : runesF l = (some L, e)) : chkE l = (0, 0) := by unfold chkE; rw [h]
theorem chkE_none {l : List UInt8} {p : Nat} (h : runesF l = (none, p)) : chkE l = (p, 5) := by unfold chkE; rw [h]
theorem runesF_cases (l : List UInt8) : (∃ L, runesF l = (some L, l.length)) ∨ ∃ p, runesF l = (none, p) := by
  rcases h : runesF l with ⟨_ | L, e⟩
  · exact .inr ⟨e, rfl⟩
  · have := (runesF_some h).2.2
    subst this
    exact .inl ⟨L, rfl⟩
theorem runesF_len {l : List UInt8} {L : List Nat} {e : Nat} (h : runesF l = (some L, e)) : L.length ≤ l.length := by
  obtain ⟨hm, hl, _⟩ := runesF_some h
  rw [hl]
  clear h hl
  induction L with
  | nil => simp
  | cons n L ih =>
    have e1 : textF (n :: L) = encF n ++ textF L := rfl
    rw [e1, List.length_append, List.length_cons]
    have := encF_pos n
    have := ih (fun x hx => hm x (by simp [hx]))
    omega
#print axioms runesF_len
end Go.Proofs.YtjjnbigfdonjlaaDoor

namespace Go.Proofs.YtjjnbigfdonjlaaDoor
open Go.RowKit

def ChkIs (r : Nat × Nat) (w : World) (e : Ending) (w' : World) : Prop := e = .returned (.tuple #[.int .i64 r.1, .int .i64 r.2]) ∧ Below w.heap.size w w'

/-- Decode at a rune; at none. -/
theorem decode_some (s : ByteArray) (p n k : Nat) (V Z : Int) (w : World) (hs : s.size ≤ 140737488355328) (hT : Tabs w) (hp : p < s.size) (hd : decF (s.data.toList.drop p) = some (n, k)) (hV : V = (n : Int)) (hZ : Z = (p : Int) + (k : Int)) :
    Calls Tryd.prog 92 #[.string s, .int .i64 (p : Int)] w fun e w' => e = .returned (.tuple #[.int .i32 V, .int .i64 Z, .int .i64 0]) ∧ Below w.heap.size w w' :=
  (decode_any s p w hs hT).mono fun _ _ h => ⟨h.1.trans (by rw [decE_some (by rw [str_len]; exact hp) hd, hV, hZ]; rfl), h.2⟩
theorem decode_none (s : ByteArray) (p : Nat) (w : World) (hs : s.size ≤ 140737488355328) (hT : Tabs w) (hp : p < s.size) (hd : decF (s.data.toList.drop p) = none) :
    Calls Tryd.prog 92 #[.string s, .int .i64 (p : Int)] w fun e w' => e = .returned (.tuple #[.int .i32 0, .int .i64 0, .int .i64 5]) ∧ Below w.heap.size w w' :=
  (decode_any s p w hs hT).mono fun _ _ h => ⟨h.1.trans (by rw [decE_none (by rw [str_len]; exact hp) hd]; rfl), h.2⟩

set_option maxRecDepth 100000 in
set_option maxHeartbeats 1000000 in
theorem check_any (s : ByteArray) (w : World) (hs : s.size ≤ 140737488355328) (hT : Tabs w) :
    Calls Tryd.prog 88 #[.string s] w (ChkIs (chkE s.data.toList) w) := by
  have hsI : (s.size : Int) ≤ 140737488355328 := by omega
  have HS := Lib.hid hs
  have HT := Lib.hid hT
  have HI := Lib.hid (Inv.start s.data.toList)
  clear hT hs
  go_enter Tryd.func88, Tryd.ntmps88
  go_wp2
  go_loopg [2] s.size (fun g v2 W => ∃ (p : Nat) (acc : List Nat), Below w.heap.size w W ∧ v2 = .int .i64 p ∧ g + p = s.size ∧ Hid (Inv s.data.toList p acc))
  case atStart => exact ⟨0, [], Below.refl _ _, rfl, rfl, HI⟩
  case round =>
    obtain ⟨p, acc, hbw, rfl, hg, hinv⟩ := hrel
    have HG := Lib.hid hg
    have HTW := Lib.hid (HT.out.below hbw)
    have hpI2 : (p : Int) ≤ (s.size : Int) := by omega
    by_cases hp : (p : Int) < (s.size : Int)
    · cases hd : decF (s.data.toList.drop p) with
      | none =>
        have HE := Lib.hid (chkE_none (hinv.out.stop (by rw [str_len]; omega) hd))
        have HC := Lib.hid (decode_none s p wr HS.out HTW.out (by omega) hd)
        clear hd hg
        go_wp2_with (go_at_call 92; go_must (refine HC.out.mono ?_); rintro e w1 ⟨rfl, hb⟩)
        go_ret2
        rw [HE.out]
        exact ⟨rfl, hbw.trans (hb.mono hbw.size)⟩
      | some q =>
        obtain ⟨n, k⟩ := q
        obtain ⟨hn, hk1, hk4, hkl⟩ := dec_bounds hd
        have HK := Lib.hid (show 1 ≤ k ∧ k ≤ s.size - p from ⟨hk1, by simpa using hkl⟩)
        have HI2 := Lib.hid (hinv.out.step hd)
        obtain ⟨V, hV⟩ : ∃ V : Int, V = (n : Int) := ⟨_, rfl⟩
        obtain ⟨Z, hZ⟩ : ∃ Z : Int, Z = (p : Int) + (k : Int) := ⟨_, rfl⟩
        have HZ := Lib.hid hZ
        have HC := Lib.hid (decode_some s p n k V Z wr HS.out HTW.out (by omega) hd hV hZ)
        clear hd hg hn hk1 hk4 hkl hV hZ
        go_wp2_with (go_at_call 92; go_must (refine HC.out.mono ?_); rintro e w1 ⟨rfl, hb⟩)
        go_roundg (gk - k)
        case measure => have := HG.out; have := HK.out; omega
        case rel => exact ⟨p + k, _, hbw.trans (hb.mono hbw.size), by rw [HZ.out]; rfl, by have := HG.out; have := HK.out; omega, HI2⟩
    · have HE := Lib.hid (chkE_some (hinv.out.done (by rw [str_len]; omega)))
      clear hg
      go_wp2
      go_ret2
      rw [HE.out]
      exact ⟨rfl, hbw⟩
#print axioms check_any
end Go.Proofs.YtjjnbigfdonjlaaDoor

namespace Go.Proofs.YtjjnbigfdonjlaaDoor
open Go.RowKit

theorem check_some (s : ByteArray) (L : List Nat) (e0 : Nat) (w : World) (hs : s.size ≤ 140737488355328) (hT : Tabs w) (h : runesF s.data.toList = (some L, e0)) :
    Calls Tryd.prog 88 #[.string s] w fun e w' => e = .returned (.tuple #[.int .i64 0, .int .i64 0]) ∧ Below w.heap.size w w' :=
  (check_any s w hs hT).mono fun _ _ h1 => ⟨h1.1.trans (by rw [chkE_some h]; rfl), h1.2⟩
theorem check_none (s : ByteArray) (p : Nat) (w : World) (hs : s.size ≤ 140737488355328) (hT : Tabs w) (h : runesF s.data.toList = (none, p)) :
    Calls Tryd.prog 88 #[.string s] w fun e w' => e = .returned (.tuple #[.int .i64 p, .int .i64 5]) ∧ Below w.heap.size w w' :=
  (check_any s w hs hT).mono fun _ _ h1 => ⟨h1.1.trans (by rw [chkE_none h]; rfl), h1.2⟩

/-- What Count answers. -/
def cntE (l : List UInt8) : Nat × Nat := match runesF l with | (some L, _) => (L.length, 0) | (none, _) => (0, 5)
theorem cntE_some {l : List UInt8} {L : List Nat} {e : Nat} (h : runesF l = (some L, e)) : cntE l = (L.length, 0) := by unfold cntE; rw [h]
theorem cntE_none {l : List UInt8} {p : Nat} (h : runesF l = (none, p)) : cntE l = (0, 5) := by unfold cntE; rw [h]

/-- The step of a range over a text at a rune. -/
theorem next_rune (w : World) (g : Nat) (s : ByteArray) (p n k : Nat) (ty : TypeId) (hk : w.heap[g]? = some (.stringIter s p)) (hp : p < s.size) (hd : decF (s.data.toList.drop p) = some (n, k)) :
    (Instr.next (.pointer (some ⟨g, 0, none⟩)) true ty).run Tryd.prog w = .ok (.tuple #[.bool true, .int .i64 p, .int .i32 n]) (w.iterAt g s (p + k)) := by
  have := Lib.run_next_any_at (P := Tryd.prog) w g s p ty hk hp
  rw [decode_drop s p hp, decR_some hd] at this
  exact this

end Go.Proofs.YtjjnbigfdonjlaaDoor

namespace Go.Proofs.YtjjnbigfdonjlaaDoor
open Go.RowKit

set_option maxRecDepth 100000 in
set_option maxHeartbeats 400000 in
theorem sized_is (s : ByteArray) (lo hi : Int) (c : Bool) (w : World) (h : (decide (lo ≤ (s.size : Int)) && decide ((s.size : Int) ≤ hi)) = c) :
    Calls Tryd.prog 71 #[.string s, .int .i64 lo, .int .i64 hi] w fun e w' => e = .returned (.bool c) ∧ w = w' := by
  by_cases h1 : lo ≤ (s.size : Int)
  · by_cases h2 : (s.size : Int) ≤ hi
    · have HC := Lib.hid (show c = true by rw [← h, decide_eq_true h1, decide_eq_true h2]; rfl)
      clear h
      go_enter Tryd.func71, Tryd.ntmps71
      go_wp2
      go_ret
      exact ⟨retBl HC.out.symm, rfl⟩
    · have HC := Lib.hid (show c = false by rw [← h, decide_eq_true h1, decide_eq_false h2]; rfl)
      clear h
      go_enter Tryd.func71, Tryd.ntmps71
      go_wp2
      go_ret
      exact ⟨retBl HC.out.symm, rfl⟩
  · have HC := Lib.hid (show c = false by rw [← h, decide_eq_false h1]; rfl)
    clear h
    go_enter Tryd.func71, Tryd.ntmps71
    go_wp2
    go_ret
    exact ⟨retBl HC.out.symm, rfl⟩

set_option maxRecDepth 100000 in
set_option maxHeartbeats 400000 in
theorem text_any (s : ByteArray) (w : World) (hs : s.size ≤ 140737488355328) (hT : Tabs w) :
    Calls Tryd.prog 72 #[.string s] w fun e w' => e = .returned (.bool (textOk s.data.toList)) ∧ Below w.heap.size w w' := by
  rcases runesF_cases s.data.toList with ⟨L, hL⟩ | ⟨p, hL⟩
  · have HC := Lib.hid (check_some s L _ w hs hT hL)
    have HE := Lib.hid (textOk_some hL)
    clear hs hT hL
    go_enter Tryd.func72, Tryd.ntmps72
    go_wp2_with (go_at_call 88; (with_reducible refine HC.out.mono ?_); rintro e w1 ⟨rfl, hb⟩)
    go_ret
    exact ⟨retBl HE.out.symm, hb⟩
  · have HC := Lib.hid (check_none s p w hs hT hL)
    have HE := Lib.hid (textOk_none hL)
    clear hs hT hL
    go_enter Tryd.func72, Tryd.ntmps72
    go_wp2_with (go_at_call 88; (with_reducible refine HC.out.mono ?_); rintro e w1 ⟨rfl, hb⟩)
    go_ret
    exact ⟨retBl HE.out.symm, hb⟩

end Go.Proofs.YtjjnbigfdonjlaaDoor

namespace Go.Proofs.YtjjnbigfdonjlaaDoor
open Go.RowKit

theorem nameC_iff (n : Nat) : nameC n = true ↔ (97 ≤ n ∧ n ≤ 122) ∨ (65 ≤ n ∧ n ≤ 90) ∨ (48 ≤ n ∧ n ≤ 57) ∨ n = 45 ∨ n = 95 ∨ n = 46 := by
  simp [nameC]; omega

set_option maxRecDepth 100000 in
set_option maxHeartbeats 1000000 in
theorem named_is (n : Nat) (c : Bool) (w : World) (h : nameC n = c) : Calls Tryd.prog 83 #[.int .i32 n] w fun e w' => e = .returned (.bool c) ∧ w = w' := by
  have HC := Lib.hid (show c = true ↔ _ from h ▸ nameC_iff n)
  clear h
  go_enter Tryd.func83, Tryd.ntmps83
  go_wp2
  all_goals
    go_ret
    refine ⟨retBl ?_, rfl⟩
    rw [Bool.eq_iff_iff, HC.out]
    simp
    omega
#print axioms named_is
end Go.Proofs.YtjjnbigfdonjlaaDoor

namespace Go.Proofs.YtjjnbigfdonjlaaDoor
open Go.RowKit

theorem all_stop {q : Nat → Bool} {L acc : List Nat} {n : Nat} {m : List Nat} (h : L = (acc ++ [n]) ++ m) (hn : q n = false) : L.all q = false := by
  rw [h, List.all_append, List.all_append]; simp [hn]

end Go.Proofs.YtjjnbigfdonjlaaDoor
