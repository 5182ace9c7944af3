/-
  The walk of Hex.
-/
import Derived.Test.YtkjgcgdfofheeaaRefUnhex
import Derived.Deep.RegionLaw
namespace Go.Proofs.Ytkjgcgdfofheeaa
open Go.RowKit

/-- An id in digits. -/
def HexIs (l : List UInt8) (w : World) (e : Ending) (w' : World) : Prop := e = .returned (.string (strB (hexF l))) ∧ Below w.heap.size w w'

theorem idAt_box (w : World) (l : List UInt8) (hl : l.length = 32) : IdAt (w.alloc (.cells (idCells l) 41)) w.heap.size l := ⟨hl, heap_alloc_new w _⟩

theorem make_bytes {w : World} {ops : Array Oper} {rest : List Oper} {o : Oper} {a : Act} {Q : Exit → Act → World → Prop} (hgd : o.guard = none) (x y : Operand) (ho : o.op = .makeSlice 22 x y)
    (L C : Nat) (zl zc : Int) (hx : a.eval x = .int .i64 zl) (hy : a.eval y = .int .i64 zc) (hl : zl = L) (hc : zc = C) (hLC : L ≤ C) (hC : C ≤ 1000000)
    (h : ∀ w1, Own w1 w.heap.size (.slice (some ⟨w.heap.size, 0, none⟩) L C) (List.replicate L 0) → Below w.heap.size w w1 → w1.heap.size = w.heap.size + 1 → wpList Try.prog ops Q rest (a.put o.dst (.slice (some ⟨w.heap.size, 0, none⟩) L C)) w1) :
    wpList Try.prog ops Q (o :: rest) a w := by
  obtain ⟨i0, hi, hz0, hz1, hz2⟩ := info_parts Try.info5
  subst hl hc
  have hr := run_make (P := Try.prog) w 22 5 i0 (.int .u8 0) Try.underlying22 hi hz0 .i64 .i64 (L : Int) (C : Int) (by omega) (by omega) (by rw [hz2]; omega) (by omega)
  simp only [Int.toNat_natCast] at hr
  refine wpList_ok (w' := w.alloc (.cells (madeCells (Value.int .u8 0).cells (C * i0.size)) 5)) hgd (by unfold execOp; simp only [ho, hx, hy, Sem.run_bind, hr, Result.andThen_ok, Sem.run_pure]) (h _ ⟨by simp, .inr ⟨w.heap.size, C, _, by simp, Nat.le_refl _, heap_alloc_new w _, by simpa using hLC, by unfold maxLen; omega, ?_, ?_⟩⟩ ((Below.refl _ _).alloc (Nat.le_refl _) _) (by simp))
  · rw [size_madeCells, hz1, Nat.mul_one]
  · rw [hz1]
    have h1 : (Value.int IntKind.u8 0).cells = #[.int .u8 0] := rfl
    rw [h1, Nat.mul_one, toList_madeCells_one]
    simp [B, Nat.min_eq_left hLC]

/-- The same append as a step of a region that draws its order. -/
theorem step_app_room {w : World} {ops : Array Oper} {o : Oper} {a : Act} {K : Act → World → Prop} {Q : Exit → Act → World → Prop} {E : Prop} (hgd : o.guard = none) (s x : Operand)
    (ho : o.op = .call { callee := .builtin .append, args := #[s, x], argTypes := #[22, 22] })
    (base : Nat) (v : Value) (l : List UInt8) (hs : a.eval s = v) (hown : Own w base v l) (room : Nat) (hroom : Room v room)
    (b m c : Nat) (src : List UInt8) (hx : a.eval x = .slice (some ⟨b, 0, none⟩) m c) (hsrc : Bytes w (some ⟨b, 0, none⟩) m c src) (hm : 0 < m)
    (hfit : l.length + m ≤ room)
    (h : ∀ v' w', Own w' base v' (l ++ src) → Room v' room → w.grownBy w' v.ownBlock → K (a.put o.dst v') w') :
    if Region.wanted o (yielded ops a.tmps) = true then Oper.wp Try.prog o a w K Q else E := by
  have hw : Region.wanted o (yielded ops a.tmps) = true := by simp [Region.wanted, hgd]
  rw [if_pos hw]
  obtain ⟨i0, hi, hz0, hz1, hz2⟩ := info_parts Try.info5
  obtain ⟨va, vk, vc, rfl, hvc⟩ := hroom
  have hcell := hsrc.cells
  obtain ⟨h1, h2, h3, h4⟩ := hsrc
  have h0 := hown
  rcases hown.2 with ⟨hv, hn⟩ | ⟨g, cap, cur, hv, hb, hg, hn, hmx, hsz, ht⟩
  · simp only [Value.slice.injEq] at hv
    omega
  · simp only [Value.slice.injEq] at hv
    obtain ⟨rfl, rfl, rfl⟩ := hv
    obtain ⟨w', hr, h5, h6⟩ := run_append_fits (P := Try.prog) w base 22 o.type 5 i0 1 Try.underlying22 hi hz1 g l.length vc (l.map B) h0 ⟨b, 0, none⟩ m c (src.map B) (by simp [h1])
      (fun j u hu => by
        rw [List.getElem?_map] at hu
        have hj : j < src.length := by
          rcases Nat.lt_or_ge j src.length with h | h
          · exact h
          · rw [List.getElem?_eq_none h] at hu; cases hu
        have := hcell j (by omega)
        simp only [List.getElem?_eq_getElem hj, Option.map_some, Option.some.injEq] at hu
        subst hu
        rw [Addr.add_lit]
        simpa [B, hj] using this) (fun u hu => by obtain ⟨x, _, rfl⟩ := List.mem_map.1 hu; rfl) (by omega)
    unfold Oper.wp
    simp only [execOp, ho, resolve, invoke, builtin, hs, hx, List.map_toArray, List.map_cons, List.map_nil, Sem.run_bind, Sem.run_pure, hr, Result.andThen_ok]
    refine h _ w' ?_ ⟨_, _, _, rfl, hvc⟩ h6
    unfold Own
    rw [List.length_append, List.map_append, h1]
    exact h5

theorem bytes_pair (w : World) (x y : UInt8) : Bytes (w.alloc (.cells #[.int .u8 (x.toNat : Int), .int .u8 (y.toNat : Int)] 5)) (some ⟨w.heap.size, 0, none⟩) 2 2 [x, y] := by
  refine ⟨rfl, Nat.le_refl _, by omega, .inr ⟨_, _, rfl, fun j hj => ?_⟩⟩
  rcases (by omega : j = 0 ∨ j = 1) with rfl | rfl
  · simp
  · simp

theorem run_index_id (l : List UInt8) (hl : l.length = 32) (i : Nat) (hi : i < 32) (W : World) : (Instr.index 41 (.agg (idCells l)) (.int .i64 (i : Int))).run Try.prog W = .ok (B (l.getD i 0)) W := by
  obtain ⟨i0, hi0, hz0, hz1, hz2⟩ := info_parts Try.info5
  have hs : (sizeOf 5).run Try.prog W = .ok 1 W := by kernel_rfl
  have hget : (idCells l)[i]? = some (B (l.getD i 0)) := by unfold idCells; simp [show i < l.length by omega]
  unfold Instr.index
  simp [asIntOf, run_underlying Try.underlying41, hs, part, hget, show i < 32 from hi]

theorem index_id {w : World} {ops : Array Oper} {rest : List Oper} {o : Oper} {a : Act} {Q : Exit → Act → World → Prop} (hgd : o.guard = none) (x y : Operand) (ho : o.op = .index 41 x y)
    (l : List UInt8) (hl : l.length = 32) (i : Nat) (hi : i < 32) (hx : a.eval x = .agg (idCells l)) (hy : a.eval y = .int .i64 (i : Int)) (c : UInt8) (hc : c = l.getD i 0)
    (h : wpList Try.prog ops Q rest (a.put o.dst (.int .u8 (c.toNat : Int))) w) :
    wpList Try.prog ops Q (o :: rest) a w := by
  subst hc
  refine wpList_ok hgd ?_ h
  unfold execOp
  simp only [ho, hx, hy, Sem.run_bind, run_index_id l hl i hi, Result.andThen_ok, Sem.run_pure]
  rfl

theorem and_15 (c : UInt8) : bits .and .u8 (c.toNat : Int) 15 = ((c.toNat % 16 : Nat) : Int) := by
  have h : ∀ n : Nat, n < 256 → bits .and .u8 (n : Int) 15 = ((n % 16 : Nat) : Int) := by decide +kernel
  exact h _ c.toNat_lt

theorem digits_dg (u : Nat) (h : u < (ByteArray.mk #[48, 49, 50, 51, 52, 53, 54, 55, 56, 57, 97, 98, 99, 100, 101, 102]).size) : (ByteArray.mk #[48, 49, 50, 51, 52, 53, 54, 55, 56, 57, 97, 98, 99, 100, 101, 102])[u]'h = dg u := by
  have hu : u < 16 := h
  match u, hu with
  | 0, _ => rfl
  | 1, _ => rfl
  | 2, _ => rfl
  | 3, _ => rfl
  | 4, _ => rfl
  | 5, _ => rfl
  | 6, _ => rfl
  | 7, _ => rfl
  | 8, _ => rfl
  | 9, _ => rfl
  | 10, _ => rfl
  | 11, _ => rfl
  | 12, _ => rfl
  | 13, _ => rfl
  | 14, _ => rfl
  | 15, _ => rfl
  | k + 16, h => omega

set_option maxRecDepth 100000 in
set_option maxHeartbeats 2000000 in
theorem hex_any (l : List UInt8) (hl : l.length = 32) (w : World) :
    Calls Try.prog 23 #[.agg (idCells l)] w (HexIs l w) := by
  have HL := Lib.hid hl
  have hi0 := idAt_box w l hl
  clear hl
  go_enter Try.func23, Try.ntmps23
  go_wp2_with (first
    | ((with_reducible show wpList _ _ _ (⟨some 6, _, _, _, _, _⟩ :: _) _ _); go_must (refine make_bytes rfl _ _ rfl 0 64 _ _ rfl rfl rfl rfl (by omega) (by omega) ?_); intro w1 hown1 hbel1 hsz1; have hi1 := hi0.below hbel1; have HS1 := Lib.hid hsz1; clear hsz1)
    | ((with_reducible show wpList _ _ _ (⟨some 7, _, _, _, _, _⟩ :: _) _ _); refine load_id rfl (.tmp 1) rfl _ _ rfl hi1 ?_))
  have e1 : Own w1 (w.heap.size + 1) (.slice (some ⟨w.heap.size + 1, 0, none⟩) 0 64) (hexF (l.take 0)) := by
    have := hown1
    simpa [hexF] using this
  have hb1 : Below w.heap.size w w1 := ((Below.refl _ _).alloc (Nat.le_refl _) _).trans (hbel1.mono (by simp))
  clear hi0 hown1 hbel1 hi1 HS1
  go_loopg [3, 8] 32 (fun gh v3 v8 W => ∃ i : Nat, gh + i = 32 ∧ v8 = .int .i64 i ∧ Own W (w.heap.size + 1) v3 (hexF (l.take i)) ∧ Room v3 64 ∧ Below w.heap.size w W)
  case atStart => exact ⟨0, rfl, rfl, e1, ⟨_, _, _, rfl, Nat.le_refl _⟩, hb1⟩
  case round =>
    obtain ⟨i, hg, rfl, hown, hroom, hbel⟩ := hrel
    have HG := Lib.hid hg
    have hi32 : i ≤ 32 := by omega
    clear hg e1 hb1
    by_cases hi : i < 32
    · obtain ⟨c, hc⟩ : ∃ c, c = l.getD i 0 := ⟨_, rfl⟩
      obtain ⟨u, hu⟩ : ∃ u, u = c.toNat / 16 := ⟨_, rfl⟩
      obtain ⟨v, hv⟩ : ∃ v, v = c.toNat % 16 := ⟨_, rfl⟩
      have hct := c.toNat_lt
      have hu16 : u < 16 := by omega
      have hv16 : v < 16 := by omega
      have hu16i : (u : Int) < 16 := by omega
      have hv16i : (v : Int) < 16 := by omega
      have HC := Lib.hid hc
      have HU := Lib.hid hu
      have HV := Lib.hid hv
      have r1 : (c.toNat : Int) / 16 = (u : Int) := by omega
      have r2 : bits .and .u8 (c.toNat : Int) 15 = (v : Int) := by rw [and_15, hv]
      have HNX := Lib.hid (show hexF (l.take (i + 1)) = hexF (l.take i) ++ [dg u, dg v] by rw [hexF_next l i (by rw [HL.out]; exact hi), ← hc, ← hu, ← hv])
      have HLN := Lib.hid (show (hexF (l.take i)).length + 2 ≤ 64 by rw [hexF_length]; have := HL.out; simp; omega)
      clear hc hu hv
      go_wp2_with ((with_reducible show wpList _ _ _ (⟨some 10, _, _, _, _, _⟩ :: _) _ _); refine index_id rfl _ _ rfl l HL.out i hi rfl rfl c HC.out ?_)
      go_region_law ((refine step_app_room rfl (.tmp 11) (.tmp 18) rfl (w.heap.size + 1) u3 (hexF (l.take i)) rfl (hown.alloc _) 64 hroom wr.heap.size 2 2 _ rfl (bytes_pair _ _ _) (by omega) HLN.out ?_); intro v' w' hown' hroom' hgr')
      all_goals
        rw [digits_dg, digits_dg, ← HNX.out] at hown'
        have hB : Below w.heap.size w w' := (hbel.alloc hbel.size _).drew.grown hgr' (by have := hbel.size; simp; omega) (fun k hk => by have := hown.grown k hk; omega)
        clear r1 r2 hgr' hown hbel hroom
        go_wp2
        go_roundg (gk - 1)
        case measure => have := HG.out; omega
        case rel => exact ⟨i + 1, by have := HG.out; omega, by go_num, hown', hroom', hB⟩
    · obtain rfl : i = 32 := by omega
      have htk : l.take 32 = l := List.take_of_length_le (by have := HL.out; omega)
      rw [htk] at hown
      obtain ⟨a', n', c', rfl, hby⟩ := hown.bytes
      have hst := run_str hby
      clear htk hown hby hi
      go_wp2
      go_ret
      exact ⟨rfl, hbel⟩
#print axioms hex_any
end Go.Proofs.Ytkjgcgdfofheeaa
