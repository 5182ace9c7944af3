/-
  Slices of bytes: one that can be read, one that the call made itself; an append of the one to the other, whatever it is.
-/
import Derived.Test.YtfoalaoanpbmeaaDoorProg
import Derived.WalkKit
import Derived.WalkSpells
import Derived.Lib.Hide
import Derived.Laws.AppendOwnNone
import Derived.Lib.AppendZeros
import Derived.Laws.BytesArg
namespace Go.Proofs.YtfoalaoanpbmeaaDoor
open Go.RowKit

/-- A byte as the model has it. -/
def B (b : UInt8) : Value := .int .u8 (b.toNat : Int)

/-- A slice value reads as these bytes. -/
def Bytes (w : World) (a : Option Addr) (n c : Nat) (l : List UInt8) : Prop :=
  l.length = n ∧ n ≤ c ∧ c ≤ 9223372036854775807 ∧ ((n = 0 ∧ c = 0) ∨ ∃ b off, a = some ⟨b, off, none⟩ ∧ ∀ j, j < n → w.cell? ⟨b, off + j, none⟩ = some (.int .u8 ((l.getD j 0).toNat : Int)))

/-- A value that owns these bytes, in memory from a block on. -/
def Own (w : World) (base : Nat) (v : Value) (l : List UInt8) : Prop := w.ownsRow base 5 1 v l.length (l.map B)

/-- What is made anew: a value that owns these bytes; what was there stands. -/
def Made (w : World) (l : List UInt8) (e : Ending) (w' : World) : Prop := ∃ a n c, e = .returned (.slice a n c) ∧ Own w' w.heap.size (.slice a n c) l ∧ Below w.heap.size w w'

theorem Tryd.info5 : (Tryd.prog.info? 5).map (fun i => (i.zero, i.size, i.bytes)) = some (some (.int .u8 0), 1, 1) := by kernel_rfl

theorem Bytes.nil (w : World) : Bytes w none 0 0 [] := ⟨rfl, Nat.le_refl _, by omega, .inl ⟨rfl, rfl⟩⟩

theorem Bytes.below {w w' : World} {a : Option Addr} {n c : Nat} {l : List UInt8} (h : Bytes w a n c l) (hb : Below w.heap.size w w') : Bytes w' a n c l := by
  obtain ⟨h1, h2, h3, h4⟩ := h
  refine ⟨h1, h2, h3, ?_⟩
  rcases h4 with h4 | ⟨b, off, ha, hc⟩
  · exact .inl h4
  · exact .inr ⟨b, off, ha, fun j hj => (hb.cell (World.block_lt_of_cell? _ _ (hc j hj))).trans (hc j hj)⟩

theorem Own.nil (w : World) (base : Nat) : Own w base (.slice none 0 0) [] := World.ownsRow_nil _ _ _ _

theorem Own.bytes {w : World} {base : Nat} {v : Value} {l : List UInt8} (h : Own w base v l) : ∃ a n c, v = .slice a n c ∧ Bytes w a n c l := by
  have h0 := h
  obtain ⟨h1, h2⟩ := h
  rcases h2 with ⟨rfl, hn⟩ | ⟨g, cap, cur, rfl, hb, hg, hn, hm, hs, ht⟩
  · have : l = [] := List.length_eq_zero_iff.1 hn
    subst this
    exact ⟨none, 0, 0, rfl, Bytes.nil w⟩
  · refine ⟨_, _, _, rfl, rfl, hn, by unfold maxLen at hm; omega, .inr ⟨g, 0, rfl, fun j hj => ?_⟩⟩
    have := h0.cells (g := g) rfl j (B (l.getD j 0)) (by rw [List.getElem?_map]; simp [hj])
    rw [Addr.add_lit] at this
    simpa [B] using this

theorem Made.of {w w' : World} {l : List UInt8} {v : Value} (h : Own w' w.heap.size v l) (hb : Below w.heap.size w w') : Made w l (.returned v) w' := by
  obtain ⟨a, n, c, rfl, _⟩ := h.bytes
  exact ⟨a, n, c, rfl, h, hb⟩

theorem Own.isBytes {w : World} {base : Nat} {a : Option Addr} {n c : Nat} {l : List UInt8} (h : Own w base (.slice a n c) l) : Bytes w a n c l := by
  obtain ⟨a', n', c', hv, hb⟩ := h.bytes
  simp only [Value.slice.injEq] at hv
  obtain ⟨rfl, rfl, rfl⟩ := hv
  exact hb

theorem Own.len {w : World} {base : Nat} {a : Option Addr} {n c : Nat} {l : List UInt8} (h : Own w base (.slice a n c) l) : n = l.length := by
  obtain ⟨a', n', c', hv, hb, _⟩ := h.bytes
  simp only [Value.slice.injEq] at hv
  omega

theorem Own.below {w w' : World} {base : Nat} {v : Value} {l : List UInt8} (h : Own w base v l) (hb : Below w.heap.size w w') : Own w' base v l := by
  obtain ⟨h1, h2⟩ := h
  refine ⟨h1, ?_⟩
  rcases h2 with h2 | ⟨g, cap, cur, hv, hg, hh, r⟩
  · exact .inl h2
  · refine .inr ⟨g, cap, cur, hv, hg, ?_, r⟩
    have hlt : g < w.heap.size := by
      rcases Nat.lt_or_ge g w.heap.size with h | h
      · exact h
      · rw [Array.getElem?_eq_none h] at hh; cases hh
    rw [hb.block g hlt]; exact hh

theorem Own.mono {w : World} {base base' : Nat} {v : Value} {l : List UInt8} (h : Own w base v l) (hb : base' ≤ base) : Own w base' v l := by
  obtain ⟨h1, h2⟩ := h
  refine ⟨h1, ?_⟩
  rcases h2 with h2 | ⟨g, cap, cur, hv, hg, r⟩
  · exact .inl h2
  · exact .inr ⟨g, cap, cur, hv, by omega, r⟩

theorem Own.grown {w : World} {base : Nat} {v : Value} {l : List UInt8} (h : Own w base v l) : ∀ k, v.ownBlock = some k → base ≤ k := fun k hk => (World.ownsRow.lt h k hk).1

/-- 'append(dst, src...)': dst is the call's own, src any slice of bytes that can be read. -/
theorem app_bytes {w : World} {ops : Array Oper} {rest : List Oper} {o : Oper} {a : Act} {Q : Exit → Act → World → Prop} (hgd : o.guard = none) (s x : Operand)
    (ho : o.op = .call { callee := .builtin .append, args := #[s, x], argTypes := #[52, 52] })
    (base : Nat) (v : Value) (l : List UInt8) (hs : a.eval s = v) (hown : Own w base v l)
    (sa : Option Addr) (m c : Nat) (src : List UInt8) (hx : a.eval x = .slice sa m c) (hsrc : Bytes w sa m c src)
    (h48 : l.length + m ≤ 140737488355328) (hbase : base ≤ w.heap.size)
    (h : ∀ v' w', Own w' base v' (l ++ src) → w.grownBy w' v.ownBlock → wpList Tryd.prog ops Q rest (a.put o.dst v') w') : wpList Tryd.prog ops Q (o :: rest) a w := by
  obtain ⟨i0, hi, hz0, hz1, hz2⟩ := info_parts Tryd.info5
  obtain ⟨h1, h2, h3, h4⟩ := hsrc
  rcases h4 with ⟨rfl, rfl⟩ | ⟨b, off, rfl, hc⟩
  · have : src = [] := List.length_eq_zero_iff.1 h1
    subst this
    cases sa with
    | none =>
      refine wpList_append_own_none hgd s x 52 ho base 5 i0 1 Tryd.underlying52 hi v l.length (l.map B) hs hown hx ?_
      exact h v w (by rw [List.append_nil]; exact hown) ⟨rfl, rfl, rfl, Nat.le_refl _, fun _ _ _ => rfl⟩
    | some ad =>
      refine wpList_append_own w hgd s x 52 ho base 5 i0 (.int .u8 0) 1 1 Tryd.underlying52 hi hz0 hz1 hz2 rfl (by decide) v l.length (l.map B) hs hown
        ad 0 0 [] hx (by simp) (by simp) (by simp) (by unfold maxLen; omega) (by omega) hbase ?_
      intro v' w' h5 h6 _
      exact h v' w' (by rw [List.append_nil]; simpa [Own] using h5) h6
  · refine wpList_append_own w hgd s x 52 ho base 5 i0 (.int .u8 0) 1 1 Tryd.underlying52 hi hz0 hz1 hz2 rfl (by decide) v l.length (l.map B) hs hown
      ⟨b, off, none⟩ m c (src.map B) hx (by simp [h1]) ?_ ?_ (by unfold maxLen; omega) (by omega) hbase ?_
    · intro j u hu
      rw [List.getElem?_map] at hu
      have hj : j < src.length := by
        rcases Nat.lt_or_ge j src.length with h | h
        · exact h
        · rw [List.getElem?_eq_none h] at hu; cases hu
      have := hc j (by omega)
      simp only [List.getElem?_eq_getElem hj, Option.map_some, Option.some.injEq] at hu
      subst hu
      rw [Addr.add_lit]
      simpa [B, hj] using this
    · intro u hu
      obtain ⟨x, _, rfl⟩ := List.mem_map.1 hu
      rfl
    · intro v' w' h5 h6 _
      refine h v' w' ?_ h6
      unfold Own
      rw [List.length_append, List.map_append, h1]
      exact h5

/-- There is room for so many bytes in all. -/
def Room (v : Value) (n : Nat) : Prop := ∃ a k c, v = .slice a k c ∧ n ≤ c

/-- The same where the room is known: the result keeps it. -/
theorem app_room {w : World} {ops : Array Oper} {rest : List Oper} {o : Oper} {a : Act} {Q : Exit → Act → World → Prop} (hgd : o.guard = none) (s x : Operand)
    (ho : o.op = .call { callee := .builtin .append, args := #[s, x], argTypes := #[52, 52] })
    (base : Nat) (v : Value) (l : List UInt8) (hs : a.eval s = v) (hown : Own w base v l) (room : Nat) (hroom : Room v room)
    (sa : Option Addr) (m c : Nat) (src : List UInt8) (hx : a.eval x = .slice sa m c) (hsrc : Bytes w sa m c src)
    (hfit : l.length + m ≤ room)
    (h : ∀ v' w', Own w' base v' (l ++ src) → Room v' room → w.grownBy w' v.ownBlock → wpList Tryd.prog ops Q rest (a.put o.dst v') w') : wpList Tryd.prog ops Q (o :: rest) a w := by
  obtain ⟨i0, hi, hz0, hz1, hz2⟩ := info_parts Tryd.info5
  obtain ⟨h1, h2, h3, h4⟩ := hsrc
  obtain ⟨va, vk, vc, rfl, hvc⟩ := hroom
  have hnone : ∀ ad : Option Addr, src = [] → sa = ad → m = 0 → c = 0 → wpList Tryd.prog ops Q (o :: rest) a w := by
    intro ad hs0 hsa hm0 hc0
    subst hs0 hsa hm0 hc0
    cases sa with
    | none =>
      refine wpList_append_own_none hgd s x 52 ho base 5 i0 1 Tryd.underlying52 hi _ l.length (l.map B) hs hown hx ?_
      exact h _ w (by rw [List.append_nil]; exact hown) ⟨_, _, _, rfl, hvc⟩ ⟨rfl, rfl, rfl, Nat.le_refl _, fun _ _ _ => rfl⟩
    | some ad =>
      have h0 := hown
      rcases hown.2 with ⟨hv, hn⟩ | ⟨g, cap, cur, hv, hb, hg, hn, hm, hsz, ht⟩
      · simp only [Value.slice.injEq] at hv
        obtain ⟨rfl, rfl, rfl⟩ := hv
        refine wpList_append_own w hgd s x 52 ho 0 5 i0 (.int .u8 0) 1 1 Tryd.underlying52 hi hz0 hz1 hz2 rfl (by decide) _ l.length (l.map B) hs ⟨hown.1, .inl ⟨rfl, hn⟩⟩
          ad 0 0 [] hx (by simp) (by simp) (by simp) (by unfold maxLen; omega) (by omega) (Nat.zero_le _) ?_
        intro v' w' h5 h6 h7
        obtain rfl := h7.2 ⟨rfl, rfl⟩
        refine h _ w' ?_ ⟨_, _, _, rfl, hvc⟩ h6
        rw [List.append_nil]
        exact ⟨hown.1, .inl ⟨rfl, hn⟩⟩
      · simp only [Value.slice.injEq] at hv
        obtain ⟨rfl, rfl, rfl⟩ := hv
        obtain ⟨w', hr, h5, h6⟩ := run_append_fits (P := Tryd.prog) w base 52 o.type 5 i0 1 Tryd.underlying52 hi hz1 g l.length vc (l.map B) h0 ad 0 0 [] (by simp) (by simp) (by simp) (by omega)
        refine Lib.wpList_append_run w hgd s x 52 52 ho _ _ hs hx _ _ hr ?_
        refine h _ w' ?_ ⟨_, _, _, rfl, hvc⟩ h6
        rw [List.append_nil]
        simpa [Own] using h5
  rcases h4 with ⟨rfl, rfl⟩ | ⟨b, off, rfl, hc⟩
  · exact hnone sa (List.length_eq_zero_iff.1 h1) rfl rfl rfl
  · have hnews : ∀ j u, (src.map B)[j]? = some u → w.cell? ((⟨b, off, none⟩ : Addr).add j) = some u := by
      intro j u hu
      rw [List.getElem?_map] at hu
      have hj : j < src.length := by
        rcases Nat.lt_or_ge j src.length with h | h
        · exact h
        · rw [List.getElem?_eq_none h] at hu; cases hu
      have := hc j (by omega)
      simp only [List.getElem?_eq_getElem hj, Option.map_some, Option.some.injEq] at hu
      subst hu
      rw [Addr.add_lit]
      simpa [B, hj] using this
    have hone : ∀ u ∈ src.map B, u.oneCell' = true := by
      intro u hu
      obtain ⟨x, _, rfl⟩ := List.mem_map.1 hu
      rfl
    have h0 := hown
    rcases hown.2 with ⟨hv, hn⟩ | ⟨g, cap, cur, hv, hb, hg, hn, hm, hsz, ht⟩
    · simp only [Value.slice.injEq] at hv
      obtain ⟨rfl, rfl, rfl⟩ := hv
      obtain rfl : m = 0 := by omega
      have hs0 : src = [] := List.length_eq_zero_iff.1 h1
      subst hs0
      have hbase : ∀ base', Own w base' (.slice none 0 0) l := fun base' => ⟨hown.1, .inl ⟨rfl, hn⟩⟩
      refine wpList_append_own w hgd s x 52 ho 0 5 i0 (.int .u8 0) 1 1 Tryd.underlying52 hi hz0 hz1 hz2 rfl (by decide) _ l.length (l.map B) hs (hbase 0)
        ⟨b, off, none⟩ 0 c [] hx (by simp) (by simp) (by simp) (by unfold maxLen; omega) (by omega) (Nat.zero_le _) ?_
      intro v' w' h5 h6 h7
      obtain rfl := h7.2 ⟨rfl, rfl⟩
      refine h _ w' ?_ ⟨_, _, _, rfl, hvc⟩ h6
      rw [List.append_nil]
      exact ⟨hown.1, .inl ⟨rfl, hn⟩⟩
    · simp only [Value.slice.injEq] at hv
      obtain ⟨rfl, rfl, rfl⟩ := hv
      obtain ⟨w', hr, h5, h6⟩ := run_append_fits (P := Tryd.prog) w base 52 o.type 5 i0 1 Tryd.underlying52 hi hz1 g l.length vc (l.map B) h0 ⟨b, off, none⟩ m c (src.map B) (by simp [h1]) hnews hone (by omega)
      refine Lib.wpList_append_run w hgd s x 52 52 ho _ _ hs hx _ _ hr ?_
      refine h _ w' ?_ ⟨_, _, _, rfl, hvc⟩ h6
      unfold Own
      rw [List.length_append, List.map_append, h1]
      exact h5

/-- One byte in a block of its own, ahead of its append. -/
theorem bytes_one (w : World) (x : UInt8) : Bytes (w.alloc (.cells #[.int .u8 (x.toNat : Int)] 5)) (some ⟨w.heap.size, 0, none⟩) 1 1 [x] := by
  refine ⟨rfl, Nat.le_refl _, by omega, .inr ⟨_, _, rfl, fun j hj => ?_⟩⟩
  obtain rfl : j = 0 := by omega
  simp

theorem Own.alloc {w : World} {base : Nat} {v : Value} {l : List UInt8} (h : Own w base v l) (o : Obj) : Own (w.alloc o) base v l := World.ownsRow.alloc h o

/-- These bytes as a string. -/
def strB (l : List UInt8) : ByteArray := ⟨l.toArray⟩

theorem strB_size (l : List UInt8) : (strB l).size = l.length := by simp [strB, ByteArray.size]
theorem strB_list (l : List UInt8) : (strB l).data.toList = l := by simp [strB]
theorem strB_inj {l m : List UInt8} (h : strB l = strB m) : l = m := by rw [← strB_list l, h, strB_list]
theorem strB_of (s : ByteArray) : strB s.data.toList = s := by simp [strB]

theorem strOfNums_bytes (l : List UInt8) : strOfNums (l.map fun x => (x.toNat : Int)) = strB l := by
  simp [strOfNums, strB, Function.comp_def]

/-- string(b). -/
theorem run_str {w : World} {a : Option Addr} {n c : Nat} {l : List UInt8} (h : Bytes w a n c l) :
    ∀ dst, Tryd.prog.underlying dst = some .string → (convert 52 dst (.slice a n c)).run Tryd.prog w = .ok (.string (strB l)) w := by
  obtain ⟨h1, h2, h3, h4⟩ := h
  intro dst hd
  rcases h4 with ⟨rfl, rfl⟩ | ⟨b, off, rfl, hc⟩
  · have : l = [] := List.length_eq_zero_iff.1 h1
    subst this
    cases a with
    | none => exact run_convert_bytes_nil w 52 5 Tryd.underlying52 Tryd.underlying5 0 0 dst hd
    | some ad =>
      rw [run_convert_bytes_string w 52 dst 5 _ 0 0 Tryd.underlying52 Tryd.underlying5 hd, run_bytesToString w ad 0 0 [] (run_loadCells_list (P := Tryd.prog) w ad [] (fun j v hj => by simp at hj))]
      rfl
  · have := run_convert_bytes_arg (P := Tryd.prog) w 52 5 Tryd.underlying52 Tryd.underlying5 b off n c (l.map fun x => (x.toNat : Int)) (by simp [h1])
      (fun i hi => by rw [hc i hi]; simp [h1, hi]) dst hd
    rw [this, strOfNums_bytes]

/-- A piece of bytes. -/
theorem Bytes.cut {w : World} {b off n c : Nat} {l : List UInt8} (h : Bytes w (some ⟨b, off, none⟩) n c l) (lo m : Nat) (hm : lo + m ≤ n) :
    Bytes w (some ⟨b, off + lo, none⟩) m (c - lo) ((l.drop lo).take m) := by
  obtain ⟨h1, h2, h3, h4⟩ := h
  refine ⟨by simp; omega, by omega, by omega, .inr ⟨_, _, rfl, fun j hj => ?_⟩⟩
  rcases h4 with ⟨_, _⟩ | ⟨b', off', ha, hc⟩
  · omega
  · simp only [Option.some.injEq, Addr.mk.injEq, and_true] at ha
    obtain ⟨rfl, rfl⟩ := ha
    have := hc (lo + j) (by omega)
    rw [show off + lo + j = off + (lo + j) from by omega, this]
    simp [hj]

#print axioms app_bytes
end Go.Proofs.YtfoalaoanpbmeaaDoor
