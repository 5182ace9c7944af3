/-
  The walk of Write.
-/
import Derived.Test.YtkjgcgdfofheeaaDoorShaPure
import Derived.Deep.LoopGhost
import Derived.Deep.RegionHeld
import Derived.Deep.RegionWith
namespace Go.Proofs.YtkjgcgdfofheeaaDoor
open Go.RowKit

theorem Bytes.cells {w : World} {b off n c : Nat} {l : List UInt8} (h : Bytes w (some ⟨b, off, none⟩) n c l) : ∀ j, j < n → w.cell? ⟨b, off + j, none⟩ = some (.int .u8 ((l.getD j 0).toNat : Int)) := by
  intro j hj
  rcases h.2.2.2 with ⟨h0, _⟩ | ⟨b', off', ha, hc⟩
  · omega
  · simp only [Option.some.injEq, Addr.mk.injEq, and_true] at ha
    obtain ⟨rfl, rfl⟩ := ha
    exact hc j hj

/-- 'copy(dst, src)' into cells of a known block. -/
theorem copy_row {w : World} {ops : Array Oper} {rest : List Oper} {o : Oper} {a : Act} {Q : Exit → Act → World → Prop} (hgd : o.guard = none) (d s : Operand)
    (ho : o.op = .call { callee := .builtin .copy, args := #[d, s], argTypes := #[22, 22] })
    (g off : Nat) (t : TypeId) (cur : List Value) (hg : RowAt w g t cur) (dLen dCap : Nat) (hd : a.eval d = .slice (some ⟨g, off, none⟩) dLen dCap)
    (b so n c : Nat) (l : List UInt8) (hs : a.eval s = .slice (some ⟨b, so, none⟩) n c) (hb : Bytes w (some ⟨b, so, none⟩) n c l) (m : Nat) (hm : m = Nat.min n dLen) (hfit : off + m ≤ cur.length)
    (h : ∀ w1, RowAt w1 g t (splice cur off (bytesV (l.take m))) → w.grownBy w1 (some g) → w1.heap.size = w.heap.size → wpList Tryd.prog ops Q rest (a.put o.dst (goInt m)) w1) :
    wpList Tryd.prog ops Q (o :: rest) a w := by
  have hmn : m ≤ n := by rw [hm]; exact Nat.min_le_left _ _
  have hlen : (bytesV (l.take m)).length = m := by rw [bytesV_length, List.length_take, hb.1]; omega
  have hr := run_copy_row (P := Tryd.prog) w 22 22 o.type 5 g off dLen dCap ⟨b, so, none⟩ n c cur.toArray t (bytesV (l.take m)) Tryd.underlying22 (by kernel_rfl) hg (by rw [hlen, hm])
    (fun j v hj => by
      have hj' : j < m := by rw [← hlen]; exact (List.getElem?_eq_some_iff.1 hj).1
      rw [Addr.add_lit, hb.cells j (by omega)]
      have hjl : j < l.length := by rw [hb.1]; omega
      unfold bytesV at hj
      rw [List.getElem?_map, List.getElem?_take, if_pos hj', List.getElem?_eq_getElem hjl] at hj
      simp only [Option.map_some, Option.some.injEq] at hj
      subst hj
      simp [B, hjl]) (by rw [hlen]; simpa using hfit) (bytesV_one _)
  rw [hlen] at hr
  refine wpList_ok (v := goInt m) (w' := w.setRow g (splice cur off (bytesV (l.take m))).toArray) hgd ?_ (h _ (setRow_heap w g cur.toArray _ t (0, 0) hg) ⟨rfl, rfl, rfl, by simp, fun k _ hk => setRow_other w g k _ (fun e => hk (by simp [e]))⟩ (by simp))
  unfold execOp
  simp only [ho, resolve, invoke, builtin, Sem.run_bind, Sem.run_pure, Result.andThen_ok, List.map_toArray, List.map_cons, List.map_nil, hd, hs, hr]
  unfold splice
  rw [hlen]
  simp

theorem hash72 (ws : List UInt32) (rs : List UInt8) (n : Nat) (hw : ws.length = 8) (hr : rs.length = 64) : (hashV ws rs n)[72]? = some (.int .i64 (n : Int)) := by
  unfold hashV
  rw [List.getElem?_append_right (by rw [wordsV_length, hw]; omega), wordsV_length, hw, List.getElem?_append_right (by rw [bytesV_length, hr]; omega), bytesV_length, hr]
  rfl

/-- An address that lies not in a block. -/
def NotIn (a : Option Addr) (g : Nat) : Prop := ∀ x, a = some x → x.block ≠ g

theorem grownBy_trans {w w1 w2 : World} {row : Option Nat} (h1 : w.grownBy w1 row) (h2 : w1.grownBy w2 row) : w.grownBy w2 row :=
  ⟨h2.os.trans h1.os, h2.tape.trans h1.tape, h2.output.trans h1.output, Nat.le_trans h1.size h2.size, fun k hk hr => (h2.block k (Nat.lt_of_lt_of_le hk h1.size) hr).trans (h1.block k hk hr)⟩
theorem below_grownBy {w w1 : World} (row : Option Nat) (h : Below w.heap.size w w1) : w.grownBy w1 row := ⟨h.os, h.tape, h.output, h.size, fun k hk _ => h.block k hk⟩
theorem Bytes.grown {w w' : World} {a : Option Addr} {n c g : Nat} {l : List UInt8} (h : Bytes w a n c l) (hg : w.grownBy w' (some g)) (hn : NotIn a g) : Bytes w' a n c l := by
  obtain ⟨h1, h2, h3, h4⟩ := h
  refine ⟨h1, h2, h3, ?_⟩
  rcases h4 with h4 | ⟨b, off, ha, hc⟩
  · exact .inl h4
  · exact .inr ⟨b, off, ha, fun j hj => hg.cell (hc j hj) (by have := hn _ ha; simpa using this)⟩
theorem Tables.grown {w w' : World} {g : Nat} (h : Tables w) (hg : w.grownBy w' (some g)) (h2 : 2 ≤ g) : Tables w' := ⟨h.first.grown hg (by simp; omega), h.round.grown hg (by simp; omega)⟩

theorem write_nil (a : Option Addr) (n c : Nat) (w : World) : Calls Tryd.prog 13 #[.pointer none, .slice a n c] w fun e w' => e = .returned (.tuple #[]) ∧ w = w' := by
  go_enter Tryd.func13, Tryd.ntmps13
  go_wp2
  exact bodyPost_ret (results_none rfl _ _ _) rfl ⟨rfl, rfl⟩

theorem turn_lit (x0 x1 x2 x3 x4 x5 x6 x7 y0 y1 y2 y3 y4 y5 y6 y7 : UInt32) (b : List UInt8) (hb : b.length = 64) (w : World) (ht : Tables w) (hy : turnF [x0, x1, x2, x3, x4, x5, x6, x7] b = [y0, y1, y2, y3, y4, y5, y6, y7]) :
    Calls Tryd.prog 19 #[.agg #[.int .u32 (x0.toNat : Int), .int .u32 (x1.toNat : Int), .int .u32 (x2.toNat : Int), .int .u32 (x3.toNat : Int), .int .u32 (x4.toNat : Int), .int .u32 (x5.toNat : Int), .int .u32 (x6.toNat : Int), .int .u32 (x7.toNat : Int)], .agg (bytesV b).toArray] w fun e w' => e = .returned (.agg #[.int .u32 (y0.toNat : Int), .int .u32 (y1.toNat : Int), .int .u32 (y2.toNat : Int), .int .u32 (y3.toNat : Int), .int .u32 (y4.toNat : Int), .int .u32 (y5.toNat : Int), .int .u32 (y6.toNat : Int), .int .u32 (y7.toNat : Int)]) ∧ Below w.heap.size w w' := by
  have h := turn_any x0 x1 x2 x3 x4 x5 x6 x7 b hb w ht
  rw [hy] at h
  exact h

theorem set8 (x0 x1 x2 x3 x4 x5 x6 x7 y0 y1 y2 y3 y4 y5 y6 y7 : UInt32) (g N : Nat) (rs : List UInt8) (w : World) (hr : RowAt w g 48 (hashV [x0, x1, x2, x3, x4, x5, x6, x7] rs N)) :
    RowAt ((((((((w.setCell ⟨g, 0, none⟩ (.int .u32 (y0.toNat : Int))).setCell ⟨g, 1, none⟩ (.int .u32 (y1.toNat : Int))).setCell ⟨g, 2, none⟩ (.int .u32 (y2.toNat : Int))).setCell ⟨g, 3, none⟩ (.int .u32 (y3.toNat : Int))).setCell ⟨g, 4, none⟩ (.int .u32 (y4.toNat : Int))).setCell ⟨g, 5, none⟩ (.int .u32 (y5.toNat : Int))).setCell ⟨g, 6, none⟩ (.int .u32 (y6.toNat : Int))).setCell ⟨g, 7, none⟩ (.int .u32 (y7.toNat : Int))) g 48 (hashV [y0, y1, y2, y3, y4, y5, y6, y7] rs N) ∧ w.grownBy ((((((((w.setCell ⟨g, 0, none⟩ (.int .u32 (y0.toNat : Int))).setCell ⟨g, 1, none⟩ (.int .u32 (y1.toNat : Int))).setCell ⟨g, 2, none⟩ (.int .u32 (y2.toNat : Int))).setCell ⟨g, 3, none⟩ (.int .u32 (y3.toNat : Int))).setCell ⟨g, 4, none⟩ (.int .u32 (y4.toNat : Int))).setCell ⟨g, 5, none⟩ (.int .u32 (y5.toNat : Int))).setCell ⟨g, 6, none⟩ (.int .u32 (y6.toNat : Int))).setCell ⟨g, 7, none⟩ (.int .u32 (y7.toNat : Int))) (some g) := by
  refine ⟨((((((((hr.set 0 (.int .u32 (y0.toNat : Int))).set 1 (.int .u32 (y1.toNat : Int))).set 2 (.int .u32 (y2.toNat : Int))).set 3 (.int .u32 (y3.toNat : Int))).set 4 (.int .u32 (y4.toNat : Int))).set 5 (.int .u32 (y5.toNat : Int))).set 6 (.int .u32 (y6.toNat : Int))).set 7 (.int .u32 (y7.toNat : Int))), ?_⟩
  have S : ∀ (W : World) (j : Nat) (v : Value), W.grownBy (W.setCell ⟨g, j, none⟩ v) (some g) := fun W j v => ⟨rfl, rfl, rfl, by simp [World.setCell], fun i _ hi => Below.heap_setCell _ _ _ _ (fun e => hi (by simp [e]))⟩
  exact (grownBy_trans (grownBy_trans (grownBy_trans (grownBy_trans (grownBy_trans (grownBy_trans (grownBy_trans (S _ 0 _) (S _ 1 _)) (S _ 2 _)) (S _ 3 _)) (S _ 4 _)) (S _ 5 _)) (S _ 6 _)) (S _ 7 _))

theorem turn_row (x0 x1 x2 x3 x4 x5 x6 x7 y0 y1 y2 y3 y4 y5 y6 y7 : UInt32) (g N : Nat) (rs : List UInt8) (hb : rs.length = 64) (w : World) (ht : Tables w) (hr : RowAt w g 48 (hashV [x0, x1, x2, x3, x4, x5, x6, x7] rs N)) (hy : turnF [x0, x1, x2, x3, x4, x5, x6, x7] rs = [y0, y1, y2, y3, y4, y5, y6, y7]) :
    Calls Tryd.prog 19 #[.agg #[.int .u32 (x0.toNat : Int), .int .u32 (x1.toNat : Int), .int .u32 (x2.toNat : Int), .int .u32 (x3.toNat : Int), .int .u32 (x4.toNat : Int), .int .u32 (x5.toNat : Int), .int .u32 (x6.toNat : Int), .int .u32 (x7.toNat : Int)], .agg (bytesV rs).toArray] w fun e w' => e = .returned (.agg #[.int .u32 (y0.toNat : Int), .int .u32 (y1.toNat : Int), .int .u32 (y2.toNat : Int), .int .u32 (y3.toNat : Int), .int .u32 (y4.toNat : Int), .int .u32 (y5.toNat : Int), .int .u32 (y6.toNat : Int), .int .u32 (y7.toNat : Int)]) ∧ (RowAt w' g 48 (hashV [x0, x1, x2, x3, x4, x5, x6, x7] rs N) ∧ Below w.heap.size w w') ∧ w'.cell? ⟨g, 0, none⟩ = some (.int .u32 (x0.toNat : Int)) ∧ w'.cell? ⟨g, 1, none⟩ = some (.int .u32 (x1.toNat : Int)) ∧ w'.cell? ⟨g, 2, none⟩ = some (.int .u32 (x2.toNat : Int)) ∧ w'.cell? ⟨g, 3, none⟩ = some (.int .u32 (x3.toNat : Int)) ∧ w'.cell? ⟨g, 4, none⟩ = some (.int .u32 (x4.toNat : Int)) ∧ w'.cell? ⟨g, 5, none⟩ = some (.int .u32 (x5.toNat : Int)) ∧ w'.cell? ⟨g, 6, none⟩ = some (.int .u32 (x6.toNat : Int)) ∧ w'.cell? ⟨g, 7, none⟩ = some (.int .u32 (x7.toNat : Int)) ∧ w'.frozen? ⟨g, 0, none⟩ = false ∧ w'.frozen? ⟨g, 1, none⟩ = false ∧ w'.frozen? ⟨g, 2, none⟩ = false ∧ w'.frozen? ⟨g, 3, none⟩ = false ∧ w'.frozen? ⟨g, 4, none⟩ = false ∧ w'.frozen? ⟨g, 5, none⟩ = false ∧ w'.frozen? ⟨g, 6, none⟩ = false ∧ w'.frozen? ⟨g, 7, none⟩ = false := by
  refine (turn_lit x0 x1 x2 x3 x4 x5 x6 x7 y0 y1 y2 y3 y4 y5 y6 y7 rs hb w ht hy).mono ?_
  rintro e w' ⟨h1, h2⟩
  have h3 := hr.below h2
  exact ⟨h1, ⟨h3, h2⟩, h3.cell 0 rfl, h3.cell 1 rfl, h3.cell 2 rfl, h3.cell 3 rfl, h3.cell 4 rfl, h3.cell 5 rfl, h3.cell 6 rfl, h3.cell 7 rfl, h3.free 0, h3.free 1, h3.free 2, h3.free 3, h3.free 4, h3.free 5, h3.free 6, h3.free 7⟩

set_option maxRecDepth 100000 in
set_option maxHeartbeats 400000 in
theorem write_any (g : Nat) (l : List UInt8) (a : Option Addr) (n c : Nat) (m : List UInt8) (w : World) (hh : HashOf w g l) (ht : Tables w) (hg2 : 2 ≤ g) (hb : Bytes w a n c m) (hni : NotIn a g) (hl : l.length + m.length ≤ 1000000000000000) :
    Calls Tryd.prog 13 #[.pointer (some ⟨g, 0, none⟩), .slice a n c] w fun e w' => e = .returned (.tuple #[]) ∧ HashOf w' g (l ++ m) ∧ w.grownBy w' (some g) := by
  have hmn := hb.1
  have HM := Lib.hid hl
  clear hl
  go_enter Tryd.func13, Tryd.ntmps13
  go_wp2
  go_loopg [1] n (fun gh v1 W => ∃ (a' : Option Addr) (c' : Nat) (done rem : List UInt8), v1 = .slice a' gh c' ∧ Bytes W a' gh c' rem ∧ NotIn a' g ∧ Hid (m = done ++ rem) ∧ HashOf W g (l ++ done) ∧ Tables W ∧ w.grownBy W (some g))
  case atStart => exact ⟨a, c, [], m, rfl, hb, hni, rfl, by simpa using hh, ht, ⟨rfl, rfl, rfl, Nat.le_refl _, fun _ _ _ => rfl⟩⟩
  case round =>
    obtain ⟨a', c', done, rem, rfl, hB, hn', hsplit, hH, hT, hgr⟩ := hrel
    clear hh ht hb hni hmn
    by_cases h0 : gk = 0
    · subst h0
      have hrem : rem = [] := List.length_eq_zero_iff.1 hB.1
      have HE := Lib.hid (show m = done by rw [hsplit.out, hrem, List.append_nil])
      clear hrem hB
      go_wp2
      go_end0
      exact ⟨rfl, by rw [HE.out]; exact hH, hgr⟩
    · obtain ⟨b, so, rfl⟩ : ∃ b so, a' = some ⟨b, so, none⟩ := by
        rcases hB.2.2.2 with ⟨h, _⟩ | ⟨b, so, rfl, _⟩
        · exact absurd h h0
        · exact ⟨b, so, rfl⟩
      have hlen := hash_len hH
      obtain ⟨rs, hrs, htk, hrow⟩ := hH
      have hDl : (l ++ done).length ≤ 1000000000000000 := by
        have := HM.out
        rw [hsplit.out] at this
        simp at this ⊢
        omega
      obtain ⟨D, hD⟩ : ∃ D, D = l ++ done := ⟨_, rfl⟩
      rw [← hD] at hlen htk hrow hDl
      have HD := Lib.hid hD
      have hws := stF_length D (D.length / 64)
      obtain ⟨ws, hws0⟩ : ∃ ws, ws = stF D (D.length / 64) := ⟨_, rfl⟩
      rw [← hws0] at hrow hws
      have HWS := Lib.hid hws0
      have hheld : D.length % 64 < 64 := Nat.mod_lt _ (by omega)
      obtain ⟨L, hL⟩ : ∃ L, L = D.length := ⟨_, rfl⟩
      rw [← hL] at hlen htk hrow hDl hheld
      have HLD := Lib.hid hL
      obtain ⟨held, hhl⟩ : ∃ h, h = L % 64 := ⟨_, rfl⟩
      rw [← hhl] at htk hheld
      have hhi := Lib.hid (show (L : Int) % 64 = (held : Int) by omega)
      have HHL := Lib.hid hhl
      obtain ⟨k, hk⟩ : ∃ k, k = Nat.min gk (64 - held) := ⟨_, rfl⟩
      have hk1 : 1 ≤ k := by rw [hk]; simp [Nat.min_def]; split <;> omega
      have hk2 : k ≤ gk := by rw [hk]; exact Nat.min_le_left _ _
      have hk4 : k ≤ 64 - held := by rw [hk]; exact Nat.min_le_right _ _
      have hk3 : held + k ≤ 64 := by omega
      have hkm : k = Nat.min gk (64 - held) := hk
      have HK := Lib.hid hkm
      have hsl := fun W => run_slice_from Tryd.underlying46 size_byte g 8 (held : Int) held rfl hheld W
      have hx : (rem.take k).length = k := by rw [List.length_take, hB.1]; omega
      have HX := Lib.hid hx
      have hspl := splice_hash ws rs (rem.take k) L held hws hrs (by omega)
      have hDL := HLD.out
      have hHL := HHL.out
      have hb1 := hB.1
      have hcap : gk ≤ c' := hB.2.1
      have hc63 : c' ≤ 9223372036854775807 := hB.2.2.1
      have HT := Lib.hid htk
      obtain ⟨rs2, hrs2⟩ : ∃ rs2, rs2 = splice rs held (rem.take k) := ⟨_, rfl⟩
      rw [← hrs2] at hspl
      have HR2 := Lib.hid hrs2
      have hrl : rs2.length = 64 := by rw [hrs2, length_splice _ _ _ (by omega)]; exact hrs
      have HRL := Lib.hid hrl
      have hfit : 8 + held + k ≤ (hashV ws rs L).length := by rw [hash_length _ _ _ hws hrs]; omega
      have HF := Lib.hid hfit
      have HSP := Lib.hid hspl
      have HWL := Lib.hid hws
      have HRS := Lib.hid hrs
      have htake : Bytes wr (some ⟨b, so + k, none⟩) (gk - k) (c' - k) (rem.drop k) := by
        have := hB.cut k (gk - k) (by omega)
        rwa [List.take_of_length_le (by simp; omega)] at this
      have HTB := Lib.hid htake
      have HHI := Lib.hid hhi.out
      have hhi' := hhi.out
      clear hk hkm hx hspl hrs2 hrl hfit hws hrs htk hD hL hws0 hDL hHL hhl hb1 htake hhi
      by_cases hfull : held + k = 64
      · have hws8 : ∃ x0 x1 x2 x3 x4 x5 x6 x7, ws = [x0, x1, x2, x3, x4, x5, x6, x7] := by
          have := HWL.out
          match ws, this with
          | [x0, x1, x2, x3, x4, x5, x6, x7], _ => exact ⟨_, _, _, _, _, _, _, _, rfl⟩
        obtain ⟨x0, x1, x2, x3, x4, x5, x6, x7, rfl⟩ := hws8
        by_cases hck : c' = k
        · obtain rfl : c' = gk := by omega
          obtain rfl : k = c' := by omega
          go_wp2_with ((with_reducible show wpList _ _ _ (⟨some 22, _, _, _, _, _⟩ :: _) _ _); go_must (refine copy_row rfl (.tmp 20) (.tmp 21) rfl g (8 + held) 48 (hashV [x0, x1, x2, x3, x4, x5, x6, x7] rs L) hrow (64 - held) (64 - held) rfl b so k k rem rfl hB k HK.out HF.out ?_); intro w2 hr2 hgr2 hsz2; rw [HSP.out] at hr2; have HS2 := Lib.hid hsz2; clear hsz2; have hcl := hr2.cell 72 (hash72 [x0, x1, x2, x3, x4, x5, x6, x7] rs2 L HWL.out HRL.out); have hfz := hr2.free 72)
          have hr3 : RowAt (w2.setCell ⟨g, 72, none⟩ (.int .i64 ((L : Int) + (k : Int)))) g 48 (hashV [x0, x1, x2, x3, x4, x5, x6, x7] rs2 (L + k)) := by
            have := hr2.set 72 (.int .i64 (((L + k : Nat)) : Int))
            rw [set_hash _ _ _ _ rfl HRL.out] at this
            rw [show (L : Int) + (k : Int) = ((L + k : Nat) : Int) from by omega]
            exact this
          have hset : w2.grownBy (w2.setCell ⟨g, 72, none⟩ (.int .i64 ((L : Int) + (k : Int)))) (some g) := ⟨rfl, rfl, rfl, by simp [World.setCell], fun i _ hi => Below.heap_setCell _ _ _ _ (fun e => hi (by simp [e]))⟩
          have hgr3 := grownBy_trans hgr2 hset
          have hT3 := (hT.grown hgr2 hg2).grown hset hg2
          generalize (w2.setCell ⟨g, 72, none⟩ (.int .i64 ((L : Int) + (k : Int)))) = w3 at hr3 hset hgr3 hT3 ⊢
          have HTT := Lib.hid hT
          clear hr2 hgr2 hset hcl hfz hrow hlen hB hT
          have hu := Tryd.underlying46
          have hi : (Tryd.prog.info? 46).map (·.size) = some (bytesV rs2).length := by rw [bytesV_length, HRL.out]; exact info_64b
          obtain ⟨y0, y1, y2, y3, y4, y5, y6, y7, hy⟩ : ∃ y0 y1 y2 y3 y4 y5 y6 y7, turnF [x0, x1, x2, x3, x4, x5, x6, x7] rs2 = [y0, y1, y2, y3, y4, y5, y6, y7] := ⟨_, _, _, _, _, _, _, _, rfl⟩
          have HY := Lib.hid hy
          have hrd : RowAt w3.drew g 48 (hashV [x0, x1, x2, x3, x4, x5, x6, x7] rs2 (L + k)) := hr3.drew
          have hTd : Tables w3.drew := ⟨hT3.first.drew, hT3.round.drew⟩
          have q2 : w3.drew.rangeAt g 8 (bytesV rs2) := hrd.range (show (hashV [x0, x1, x2, x3, x4, x5, x6, x7] rs2 (L + k)) = wordsV [x0, x1, x2, x3, x4, x5, x6, x7] ++ (bytesV rs2 ++ [.int .i64 ((L + k : Nat) : Int)]) from rfl)
          clear hy
          have k0 : w3.drew.cell? ⟨g, 0, none⟩ = some (.int .u32 (x0.toNat : Int)) := hrd.cell 0 rfl
          have k1 : w3.drew.cell? ⟨g, 1, none⟩ = some (.int .u32 (x1.toNat : Int)) := hrd.cell 1 rfl
          have k2 : w3.drew.cell? ⟨g, 2, none⟩ = some (.int .u32 (x2.toNat : Int)) := hrd.cell 2 rfl
          have k3 : w3.drew.cell? ⟨g, 3, none⟩ = some (.int .u32 (x3.toNat : Int)) := hrd.cell 3 rfl
          have k4 : w3.drew.cell? ⟨g, 4, none⟩ = some (.int .u32 (x4.toNat : Int)) := hrd.cell 4 rfl
          have k5 : w3.drew.cell? ⟨g, 5, none⟩ = some (.int .u32 (x5.toNat : Int)) := hrd.cell 5 rfl
          have k6 : w3.drew.cell? ⟨g, 6, none⟩ = some (.int .u32 (x6.toNat : Int)) := hrd.cell 6 rfl
          have k7 : w3.drew.cell? ⟨g, 7, none⟩ = some (.int .u32 (x7.toNat : Int)) := hrd.cell 7 rfl
          have HTR := Lib.hid (turn_row x0 x1 x2 x3 x4 x5 x6 x7 y0 y1 y2 y3 y4 y5 y6 y7 g (L + k) rs2 HRL.out _ hTd hrd HY.out)
          clear hTd hT3
          refine wp_region_any (by kernel_rfl) ?_
          change wpAny _ _ _ _ _ _ _ (World.drew w3)
          refine wpAny_take (i := 0) (oi := ⟨some 38, .move (.tmp 0), _, _, _, _⟩) (v := .pointer (some ⟨g, 0, none⟩)) rfl (by kernel_rfl) (by kernel_rfl) (by kernel_rfl) (fun _ _ _ h => h) (Or.inl ⟨by rfl, fun W => by go_simp⟩) ?_
          refine wpAny_take (i := 1) (oi := ⟨some 39, .move (.tmp 0), _, _, _, _⟩) (v := .pointer (some ⟨g, 0, none⟩)) rfl (by kernel_rfl) (by kernel_rfl) (by kernel_rfl) (fun _ _ _ h => h) (Or.inl ⟨by rfl, fun W => by go_simp⟩) ?_
          refine wpAny_take (i := 2) (oi := ⟨some 40, .nilCheck (.tmp 39), _, _, _, _⟩) (v := .pointer (some ⟨g, 0, none⟩)) rfl (by kernel_rfl) (by kernel_rfl) (by kernel_rfl) (fun _ _ _ h => h) (Or.inl ⟨by rfl, fun W => by go_simp⟩) ?_
          refine wpAny_take (i := 3) (oi := ⟨some 41, .fieldAddr 48 (.tmp 40) 0, _, _, _, _⟩) (v := .pointer (some ⟨g, 0, none⟩)) rfl (by kernel_rfl) (by kernel_rfl) (by kernel_rfl) (fun _ _ _ h => h) (Or.inl ⟨by rfl, fun W => by go_simp⟩) ?_
          refine wpAny_take (i := 5) (oi := ⟨some 43, .move (.tmp 0), _, _, _, _⟩) (v := .pointer (some ⟨g, 0, none⟩)) rfl (by kernel_rfl) (by kernel_rfl) (by kernel_rfl) (fun _ _ _ h => h) (Or.inl ⟨by rfl, fun W => by go_simp⟩) ?_
          refine wpAny_take (i := 6) (oi := ⟨some 44, .nilCheck (.tmp 43), _, _, _, _⟩) (v := .pointer (some ⟨g, 0, none⟩)) rfl (by kernel_rfl) (by kernel_rfl) (by kernel_rfl) (fun _ _ _ h => h) (Or.inl ⟨by rfl, fun W => by go_simp⟩) ?_
          refine wpAny_take (i := 7) (oi := ⟨some 45, .fieldAddr 48 (.tmp 44) 1, _, _, _, _⟩) (v := .pointer (some ⟨g, 8, none⟩)) rfl (by kernel_rfl) (by kernel_rfl) (by kernel_rfl) (fun _ _ _ h => h) (Or.inl ⟨by rfl, fun W => by go_simp⟩) ?_
          simp only [Act.put, List.setIfInBounds_toArray, List.set_cons_zero, List.set_cons_succ]
          refine wpAny_ready (rs := [4, 8]) (by kernel_rfl) (by simp) ?_
          refine AllReady.cons (o := ⟨some 42, .load 41 (.tmp 41), _, _, _, _⟩) rfl (fun K hK => ?_) (AllReady.cons (o := ⟨some 46, .load 46 (.tmp 45), _, _, _, _⟩) rfl (fun K hK => ?_) AllReady.nil)
          · go_simp
            refine hK _ _ ?_
            clear hK K
            refine wpAny_ready (rs := [8]) (by kernel_rfl) (by simp) ?_
            refine AllReady.cons (o := ⟨some 46, .load 46 (.tmp 45), _, _, _, _⟩) rfl (fun K hK => ?_) AllReady.nil
            rw [if_pos (by rfl)]
            refine wp_load_mid _ _ rfl g 8 rfl (bytesV rs2) _ q2 hu rfl hi ?_
            refine hK _ _ ?_
            clear hK K
            simp only [Act.put, List.setIfInBounds_toArray, List.set_cons_zero, List.set_cons_succ]
            refine wpAny_ready (rs := [9]) (by kernel_rfl) (by simp) ?_
            refine AllReady.cons (o := ⟨some 47, .call { callee := .value (.func 19), args := #[.tmp 42, .tmp 46], argTypes := #[41, 46] }, _, _, _, _⟩) rfl (fun K hK => ?_) AllReady.nil
            go_simp
            go_wp2_with (go_at_call 19; refine (HTR.out).mono ?_; rintro e w4 ⟨rfl, hr4, j0, j1, j2, j3, j4, j5, j6, j7, z0, z1, z2, z3, z4, z5, z6, z7⟩)
            refine wpAny_take (i := 10) (oi := ⟨some 48, .nilCheck (.tmp 38), _, _, _, _⟩) (v := .pointer (some ⟨g, 0, none⟩)) rfl (by kernel_rfl) (by kernel_rfl) (by kernel_rfl) (fun _ _ _ h => h) (Or.inl ⟨by rfl, fun W => by go_simp⟩) ?_
            refine wpAny_take (i := 11) (oi := ⟨some 49, .fieldAddr 48 (.tmp 48) 0, _, _, _, _⟩) (v := .pointer (some ⟨g, 0, none⟩)) rfl (by kernel_rfl) (by kernel_rfl) (by kernel_rfl) (fun _ _ _ h => h) (Or.inl ⟨by rfl, fun W => by go_simp⟩) ?_
            simp only [Act.put, List.setIfInBounds_toArray, List.set_cons_zero, List.set_cons_succ]
            refine wpAny_ready (rs := [12]) (by kernel_rfl) (by simp) ?_
            refine AllReady.cons (o := ⟨none, .store 41 (.tmp 49) (.tmp 47), _, _, _, _⟩) rfl (fun K hK => ?_) AllReady.nil
            go_simp
            refine hK _ _ ?_
            clear hK K
            refine wpAny_done (by kernel_rfl) ?_ _
            go_wp2
            go_roundg 0
            case measure => omega
            case rel =>
              obtain ⟨hr5, hgr5⟩ := set8 x0 x1 x2 x3 x4 x5 x6 x7 y0 y1 y2 y3 y4 y5 y6 y7 g (L + k) rs2 w4 hr4.1
              have hgr4 : w3.grownBy w4 (some g) := grownBy_trans (w1 := w3.drew) ⟨rfl, rfl, rfl, Nat.le_refl _, fun _ _ _ => rfl⟩ (below_grownBy (some g) hr4.2)
              have hgall := grownBy_trans hgr3 (grownBy_trans hgr4 hgr5)
              have hfin := hash_full HLD.out HHL.out HX.out (by omega) HRS.out HT.out HR2.out HWS.out (by rw [HY.out]; exact hr5)
              have hTB := HTB.out
              rw [Nat.sub_self] at hTB
              refine ⟨some ⟨b, so, none⟩, 0, done ++ rem.take k, rem.drop k, by simp, ⟨hTB.1, Nat.le_refl _, by omega, .inl ⟨rfl, rfl⟩⟩, hn', ?_, ?_, HTT.out.grown hgall hg2, grownBy_trans hgr hgall⟩
              · show m = _
                rw [hsplit.out, List.append_assoc, List.take_append_drop]
              · rw [← List.append_assoc, ← HD.out]; exact hfin
          · rw [if_pos (by rfl)]
            refine wp_load_mid _ _ rfl g 8 rfl (bytesV rs2) _ q2 hu rfl hi ?_
            refine hK _ _ ?_
            clear hK K
            simp only [Act.put, List.setIfInBounds_toArray, List.set_cons_zero, List.set_cons_succ]
            refine wpAny_ready (rs := [4]) (by kernel_rfl) (by simp) ?_
            refine AllReady.cons (o := ⟨some 42, .load 41 (.tmp 41), _, _, _, _⟩) rfl (fun K hK => ?_) AllReady.nil
            go_simp
            refine hK _ _ ?_
            clear hK K
            refine wpAny_ready (rs := [9]) (by kernel_rfl) (by simp) ?_
            refine AllReady.cons (o := ⟨some 47, .call { callee := .value (.func 19), args := #[.tmp 42, .tmp 46], argTypes := #[41, 46] }, _, _, _, _⟩) rfl (fun K hK => ?_) AllReady.nil
            go_simp
            go_wp2_with (go_at_call 19; refine (HTR.out).mono ?_; rintro e w4 ⟨rfl, hr4, j0, j1, j2, j3, j4, j5, j6, j7, z0, z1, z2, z3, z4, z5, z6, z7⟩)
            refine wpAny_take (i := 10) (oi := ⟨some 48, .nilCheck (.tmp 38), _, _, _, _⟩) (v := .pointer (some ⟨g, 0, none⟩)) rfl (by kernel_rfl) (by kernel_rfl) (by kernel_rfl) (fun _ _ _ h => h) (Or.inl ⟨by rfl, fun W => by go_simp⟩) ?_
            refine wpAny_take (i := 11) (oi := ⟨some 49, .fieldAddr 48 (.tmp 48) 0, _, _, _, _⟩) (v := .pointer (some ⟨g, 0, none⟩)) rfl (by kernel_rfl) (by kernel_rfl) (by kernel_rfl) (fun _ _ _ h => h) (Or.inl ⟨by rfl, fun W => by go_simp⟩) ?_
            simp only [Act.put, List.setIfInBounds_toArray, List.set_cons_zero, List.set_cons_succ]
            refine wpAny_ready (rs := [12]) (by kernel_rfl) (by simp) ?_
            refine AllReady.cons (o := ⟨none, .store 41 (.tmp 49) (.tmp 47), _, _, _, _⟩) rfl (fun K hK => ?_) AllReady.nil
            go_simp
            refine hK _ _ ?_
            clear hK K
            refine wpAny_done (by kernel_rfl) ?_ _
            go_wp2
            go_roundg 0
            case measure => omega
            case rel =>
              obtain ⟨hr5, hgr5⟩ := set8 x0 x1 x2 x3 x4 x5 x6 x7 y0 y1 y2 y3 y4 y5 y6 y7 g (L + k) rs2 w4 hr4.1
              have hgr4 : w3.grownBy w4 (some g) := grownBy_trans (w1 := w3.drew) ⟨rfl, rfl, rfl, Nat.le_refl _, fun _ _ _ => rfl⟩ (below_grownBy (some g) hr4.2)
              have hgall := grownBy_trans hgr3 (grownBy_trans hgr4 hgr5)
              have hfin := hash_full HLD.out HHL.out HX.out (by omega) HRS.out HT.out HR2.out HWS.out (by rw [HY.out]; exact hr5)
              have hTB := HTB.out
              rw [Nat.sub_self] at hTB
              refine ⟨some ⟨b, so, none⟩, 0, done ++ rem.take k, rem.drop k, by simp, ⟨hTB.1, Nat.le_refl _, by omega, .inl ⟨rfl, rfl⟩⟩, hn', ?_, ?_, HTT.out.grown hgall hg2, grownBy_trans hgr hgall⟩
              · show m = _
                rw [hsplit.out, List.append_assoc, List.take_append_drop]
              · rw [← List.append_assoc, ← HD.out]; exact hfin
        · go_wp2_with ((with_reducible show wpList _ _ _ (⟨some 22, _, _, _, _, _⟩ :: _) _ _); go_must (refine copy_row rfl (.tmp 20) (.tmp 21) rfl g (8 + held) 48 (hashV [x0, x1, x2, x3, x4, x5, x6, x7] rs L) hrow (64 - held) (64 - held) rfl b so gk c' rem rfl hB k HK.out HF.out ?_); intro w2 hr2 hgr2 hsz2; rw [HSP.out] at hr2; have HS2 := Lib.hid hsz2; clear hsz2; have hcl := hr2.cell 72 (hash72 [x0, x1, x2, x3, x4, x5, x6, x7] rs2 L HWL.out HRL.out); have hfz := hr2.free 72)
          have hr3 : RowAt (w2.setCell ⟨g, 72, none⟩ (.int .i64 ((L : Int) + (k : Int)))) g 48 (hashV [x0, x1, x2, x3, x4, x5, x6, x7] rs2 (L + k)) := by
            have := hr2.set 72 (.int .i64 (((L + k : Nat)) : Int))
            rw [set_hash _ _ _ _ rfl HRL.out] at this
            rw [show (L : Int) + (k : Int) = ((L + k : Nat) : Int) from by omega]
            exact this
          have hset : w2.grownBy (w2.setCell ⟨g, 72, none⟩ (.int .i64 ((L : Int) + (k : Int)))) (some g) := ⟨rfl, rfl, rfl, by simp [World.setCell], fun i _ hi => Below.heap_setCell _ _ _ _ (fun e => hi (by simp [e]))⟩
          have hgr3 := grownBy_trans hgr2 hset
          have hT3 := (hT.grown hgr2 hg2).grown hset hg2
          generalize (w2.setCell ⟨g, 72, none⟩ (.int .i64 ((L : Int) + (k : Int)))) = w3 at hr3 hset hgr3 hT3 ⊢
          have HTT := Lib.hid hT
          clear hr2 hgr2 hset hcl hfz hrow hlen hB hT
          have hu := Tryd.underlying46
          have hi : (Tryd.prog.info? 46).map (·.size) = some (bytesV rs2).length := by rw [bytesV_length, HRL.out]; exact info_64b
          obtain ⟨y0, y1, y2, y3, y4, y5, y6, y7, hy⟩ : ∃ y0 y1 y2 y3 y4 y5 y6 y7, turnF [x0, x1, x2, x3, x4, x5, x6, x7] rs2 = [y0, y1, y2, y3, y4, y5, y6, y7] := ⟨_, _, _, _, _, _, _, _, rfl⟩
          have HY := Lib.hid hy
          have hrd : RowAt w3.drew g 48 (hashV [x0, x1, x2, x3, x4, x5, x6, x7] rs2 (L + k)) := hr3.drew
          have hTd : Tables w3.drew := ⟨hT3.first.drew, hT3.round.drew⟩
          have q2 : w3.drew.rangeAt g 8 (bytesV rs2) := hrd.range (show (hashV [x0, x1, x2, x3, x4, x5, x6, x7] rs2 (L + k)) = wordsV [x0, x1, x2, x3, x4, x5, x6, x7] ++ (bytesV rs2 ++ [.int .i64 ((L + k : Nat) : Int)]) from rfl)
          clear hy
          have k0 : w3.drew.cell? ⟨g, 0, none⟩ = some (.int .u32 (x0.toNat : Int)) := hrd.cell 0 rfl
          have k1 : w3.drew.cell? ⟨g, 1, none⟩ = some (.int .u32 (x1.toNat : Int)) := hrd.cell 1 rfl
          have k2 : w3.drew.cell? ⟨g, 2, none⟩ = some (.int .u32 (x2.toNat : Int)) := hrd.cell 2 rfl
          have k3 : w3.drew.cell? ⟨g, 3, none⟩ = some (.int .u32 (x3.toNat : Int)) := hrd.cell 3 rfl
          have k4 : w3.drew.cell? ⟨g, 4, none⟩ = some (.int .u32 (x4.toNat : Int)) := hrd.cell 4 rfl
          have k5 : w3.drew.cell? ⟨g, 5, none⟩ = some (.int .u32 (x5.toNat : Int)) := hrd.cell 5 rfl
          have k6 : w3.drew.cell? ⟨g, 6, none⟩ = some (.int .u32 (x6.toNat : Int)) := hrd.cell 6 rfl
          have k7 : w3.drew.cell? ⟨g, 7, none⟩ = some (.int .u32 (x7.toNat : Int)) := hrd.cell 7 rfl
          have HTR := Lib.hid (turn_row x0 x1 x2 x3 x4 x5 x6 x7 y0 y1 y2 y3 y4 y5 y6 y7 g (L + k) rs2 HRL.out _ hTd hrd HY.out)
          clear hTd hT3
          refine wp_region_any (by kernel_rfl) ?_
          change wpAny _ _ _ _ _ _ _ (World.drew w3)
          refine wpAny_take (i := 0) (oi := ⟨some 38, .move (.tmp 0), _, _, _, _⟩) (v := .pointer (some ⟨g, 0, none⟩)) rfl (by kernel_rfl) (by kernel_rfl) (by kernel_rfl) (fun _ _ _ h => h) (Or.inl ⟨by rfl, fun W => by go_simp⟩) ?_
          refine wpAny_take (i := 1) (oi := ⟨some 39, .move (.tmp 0), _, _, _, _⟩) (v := .pointer (some ⟨g, 0, none⟩)) rfl (by kernel_rfl) (by kernel_rfl) (by kernel_rfl) (fun _ _ _ h => h) (Or.inl ⟨by rfl, fun W => by go_simp⟩) ?_
          refine wpAny_take (i := 2) (oi := ⟨some 40, .nilCheck (.tmp 39), _, _, _, _⟩) (v := .pointer (some ⟨g, 0, none⟩)) rfl (by kernel_rfl) (by kernel_rfl) (by kernel_rfl) (fun _ _ _ h => h) (Or.inl ⟨by rfl, fun W => by go_simp⟩) ?_
          refine wpAny_take (i := 3) (oi := ⟨some 41, .fieldAddr 48 (.tmp 40) 0, _, _, _, _⟩) (v := .pointer (some ⟨g, 0, none⟩)) rfl (by kernel_rfl) (by kernel_rfl) (by kernel_rfl) (fun _ _ _ h => h) (Or.inl ⟨by rfl, fun W => by go_simp⟩) ?_
          refine wpAny_take (i := 5) (oi := ⟨some 43, .move (.tmp 0), _, _, _, _⟩) (v := .pointer (some ⟨g, 0, none⟩)) rfl (by kernel_rfl) (by kernel_rfl) (by kernel_rfl) (fun _ _ _ h => h) (Or.inl ⟨by rfl, fun W => by go_simp⟩) ?_
          refine wpAny_take (i := 6) (oi := ⟨some 44, .nilCheck (.tmp 43), _, _, _, _⟩) (v := .pointer (some ⟨g, 0, none⟩)) rfl (by kernel_rfl) (by kernel_rfl) (by kernel_rfl) (fun _ _ _ h => h) (Or.inl ⟨by rfl, fun W => by go_simp⟩) ?_
          refine wpAny_take (i := 7) (oi := ⟨some 45, .fieldAddr 48 (.tmp 44) 1, _, _, _, _⟩) (v := .pointer (some ⟨g, 8, none⟩)) rfl (by kernel_rfl) (by kernel_rfl) (by kernel_rfl) (fun _ _ _ h => h) (Or.inl ⟨by rfl, fun W => by go_simp⟩) ?_
          simp only [Act.put, List.setIfInBounds_toArray, List.set_cons_zero, List.set_cons_succ]
          refine wpAny_ready (rs := [4, 8]) (by kernel_rfl) (by simp) ?_
          refine AllReady.cons (o := ⟨some 42, .load 41 (.tmp 41), _, _, _, _⟩) rfl (fun K hK => ?_) (AllReady.cons (o := ⟨some 46, .load 46 (.tmp 45), _, _, _, _⟩) rfl (fun K hK => ?_) AllReady.nil)
          · go_simp
            refine hK _ _ ?_
            clear hK K
            refine wpAny_ready (rs := [8]) (by kernel_rfl) (by simp) ?_
            refine AllReady.cons (o := ⟨some 46, .load 46 (.tmp 45), _, _, _, _⟩) rfl (fun K hK => ?_) AllReady.nil
            rw [if_pos (by rfl)]
            refine wp_load_mid _ _ rfl g 8 rfl (bytesV rs2) _ q2 hu rfl hi ?_
            refine hK _ _ ?_
            clear hK K
            simp only [Act.put, List.setIfInBounds_toArray, List.set_cons_zero, List.set_cons_succ]
            refine wpAny_ready (rs := [9]) (by kernel_rfl) (by simp) ?_
            refine AllReady.cons (o := ⟨some 47, .call { callee := .value (.func 19), args := #[.tmp 42, .tmp 46], argTypes := #[41, 46] }, _, _, _, _⟩) rfl (fun K hK => ?_) AllReady.nil
            go_simp
            go_wp2_with (go_at_call 19; refine (HTR.out).mono ?_; rintro e w4 ⟨rfl, hr4, j0, j1, j2, j3, j4, j5, j6, j7, z0, z1, z2, z3, z4, z5, z6, z7⟩)
            refine wpAny_take (i := 10) (oi := ⟨some 48, .nilCheck (.tmp 38), _, _, _, _⟩) (v := .pointer (some ⟨g, 0, none⟩)) rfl (by kernel_rfl) (by kernel_rfl) (by kernel_rfl) (fun _ _ _ h => h) (Or.inl ⟨by rfl, fun W => by go_simp⟩) ?_
            refine wpAny_take (i := 11) (oi := ⟨some 49, .fieldAddr 48 (.tmp 48) 0, _, _, _, _⟩) (v := .pointer (some ⟨g, 0, none⟩)) rfl (by kernel_rfl) (by kernel_rfl) (by kernel_rfl) (fun _ _ _ h => h) (Or.inl ⟨by rfl, fun W => by go_simp⟩) ?_
            simp only [Act.put, List.setIfInBounds_toArray, List.set_cons_zero, List.set_cons_succ]
            refine wpAny_ready (rs := [12]) (by kernel_rfl) (by simp) ?_
            refine AllReady.cons (o := ⟨none, .store 41 (.tmp 49) (.tmp 47), _, _, _, _⟩) rfl (fun K hK => ?_) AllReady.nil
            go_simp
            refine hK _ _ ?_
            clear hK K
            refine wpAny_done (by kernel_rfl) ?_ _
            go_wp2
            go_roundg (gk - k)
            case measure => omega
            case rel =>
              obtain ⟨hr5, hgr5⟩ := set8 x0 x1 x2 x3 x4 x5 x6 x7 y0 y1 y2 y3 y4 y5 y6 y7 g (L + k) rs2 w4 hr4.1
              have hgr4 : w3.grownBy w4 (some g) := grownBy_trans (w1 := w3.drew) ⟨rfl, rfl, rfl, Nat.le_refl _, fun _ _ _ => rfl⟩ (below_grownBy (some g) hr4.2)
              have hgall := grownBy_trans hgr3 (grownBy_trans hgr4 hgr5)
              have hfin := hash_full HLD.out HHL.out HX.out (by omega) HRS.out HT.out HR2.out HWS.out (by rw [HY.out]; exact hr5)
              have hTB := HTB.out.grown hgall (fun x hx => by cases hx; exact hn' ⟨b, so, none⟩ rfl)
              refine ⟨some ⟨b, so + k, none⟩, c' - k, done ++ rem.take k, rem.drop k, rfl, hTB, fun x hx => by cases hx; exact hn' ⟨b, so, none⟩ rfl, ?_, ?_, HTT.out.grown hgall hg2, grownBy_trans hgr hgall⟩
              · show m = _
                rw [hsplit.out, List.append_assoc, List.take_append_drop]
              · rw [← List.append_assoc, ← HD.out]; exact hfin
          · rw [if_pos (by rfl)]
            refine wp_load_mid _ _ rfl g 8 rfl (bytesV rs2) _ q2 hu rfl hi ?_
            refine hK _ _ ?_
            clear hK K
            simp only [Act.put, List.setIfInBounds_toArray, List.set_cons_zero, List.set_cons_succ]
            refine wpAny_ready (rs := [4]) (by kernel_rfl) (by simp) ?_
            refine AllReady.cons (o := ⟨some 42, .load 41 (.tmp 41), _, _, _, _⟩) rfl (fun K hK => ?_) AllReady.nil
            go_simp
            refine hK _ _ ?_
            clear hK K
            refine wpAny_ready (rs := [9]) (by kernel_rfl) (by simp) ?_
            refine AllReady.cons (o := ⟨some 47, .call { callee := .value (.func 19), args := #[.tmp 42, .tmp 46], argTypes := #[41, 46] }, _, _, _, _⟩) rfl (fun K hK => ?_) AllReady.nil
            go_simp
            go_wp2_with (go_at_call 19; refine (HTR.out).mono ?_; rintro e w4 ⟨rfl, hr4, j0, j1, j2, j3, j4, j5, j6, j7, z0, z1, z2, z3, z4, z5, z6, z7⟩)
            refine wpAny_take (i := 10) (oi := ⟨some 48, .nilCheck (.tmp 38), _, _, _, _⟩) (v := .pointer (some ⟨g, 0, none⟩)) rfl (by kernel_rfl) (by kernel_rfl) (by kernel_rfl) (fun _ _ _ h => h) (Or.inl ⟨by rfl, fun W => by go_simp⟩) ?_
            refine wpAny_take (i := 11) (oi := ⟨some 49, .fieldAddr 48 (.tmp 48) 0, _, _, _, _⟩) (v := .pointer (some ⟨g, 0, none⟩)) rfl (by kernel_rfl) (by kernel_rfl) (by kernel_rfl) (fun _ _ _ h => h) (Or.inl ⟨by rfl, fun W => by go_simp⟩) ?_
            simp only [Act.put, List.setIfInBounds_toArray, List.set_cons_zero, List.set_cons_succ]
            refine wpAny_ready (rs := [12]) (by kernel_rfl) (by simp) ?_
            refine AllReady.cons (o := ⟨none, .store 41 (.tmp 49) (.tmp 47), _, _, _, _⟩) rfl (fun K hK => ?_) AllReady.nil
            go_simp
            refine hK _ _ ?_
            clear hK K
            refine wpAny_done (by kernel_rfl) ?_ _
            go_wp2
            go_roundg (gk - k)
            case measure => omega
            case rel =>
              obtain ⟨hr5, hgr5⟩ := set8 x0 x1 x2 x3 x4 x5 x6 x7 y0 y1 y2 y3 y4 y5 y6 y7 g (L + k) rs2 w4 hr4.1
              have hgr4 : w3.grownBy w4 (some g) := grownBy_trans (w1 := w3.drew) ⟨rfl, rfl, rfl, Nat.le_refl _, fun _ _ _ => rfl⟩ (below_grownBy (some g) hr4.2)
              have hgall := grownBy_trans hgr3 (grownBy_trans hgr4 hgr5)
              have hfin := hash_full HLD.out HHL.out HX.out (by omega) HRS.out HT.out HR2.out HWS.out (by rw [HY.out]; exact hr5)
              have hTB := HTB.out.grown hgall (fun x hx => by cases hx; exact hn' ⟨b, so, none⟩ rfl)
              refine ⟨some ⟨b, so + k, none⟩, c' - k, done ++ rem.take k, rem.drop k, rfl, hTB, fun x hx => by cases hx; exact hn' ⟨b, so, none⟩ rfl, ?_, ?_, HTT.out.grown hgall hg2, grownBy_trans hgr hgall⟩
              · show m = _
                rw [hsplit.out, List.append_assoc, List.take_append_drop]
              · rw [← List.append_assoc, ← HD.out]; exact hfin
      · by_cases hck : c' = k
        · obtain rfl : c' = gk := by omega
          obtain rfl : k = c' := by omega
          go_wp2_with ((with_reducible show wpList _ _ _ (⟨some 22, _, _, _, _, _⟩ :: _) _ _); go_must (refine copy_row rfl (.tmp 20) (.tmp 21) rfl g (8 + held) 48 (hashV ws rs L) hrow (64 - held) (64 - held) rfl b so k k rem rfl hB k HK.out HF.out ?_); intro w2 hr2 hgr2 hsz2; rw [HSP.out] at hr2; have HS2 := Lib.hid hsz2; clear hsz2; have hcl := hr2.cell 72 (hash72 ws rs2 L HWL.out HRL.out); have hfz := hr2.free 72)
          go_roundg 0
          case measure => omega
          case rel =>
            have hfin := hash_more HLD.out HHL.out HX.out (by omega) HRS.out HT.out HR2.out HWS.out hr2
            have hgr3 := grownBy_trans (grownBy_trans hgr hgr2) (w2 := w2.setCell ⟨g, 72, none⟩ (.int .i64 ((L : Int) + (k : Int)))) ⟨rfl, rfl, rfl, by simp [World.setCell], fun i _ hi => Below.heap_setCell _ _ _ _ (fun e => hi (by simp [e]))⟩
            have hTB := HTB.out
            rw [Nat.sub_self] at hTB
            refine ⟨some ⟨b, so, none⟩, 0, done ++ rem.take k, rem.drop k, by simp, ⟨hTB.1, Nat.le_refl _, by omega, .inl ⟨rfl, rfl⟩⟩, hn', ?_, ?_, ?_, hgr3⟩
            · show m = _
              rw [hsplit.out, List.append_assoc, List.take_append_drop]
            · rw [← List.append_assoc, ← HD.out]; exact hfin
            · exact (hT.grown hgr2 hg2).grown ⟨rfl, rfl, rfl, by simp [World.setCell], fun i _ hi => Below.heap_setCell _ _ _ _ (fun e => hi (by simp [e]))⟩ hg2
        · go_wp2_with ((with_reducible show wpList _ _ _ (⟨some 22, _, _, _, _, _⟩ :: _) _ _); go_must (refine copy_row rfl (.tmp 20) (.tmp 21) rfl g (8 + held) 48 (hashV ws rs L) hrow (64 - held) (64 - held) rfl b so gk c' rem rfl hB k HK.out HF.out ?_); intro w2 hr2 hgr2 hsz2; rw [HSP.out] at hr2; have HS2 := Lib.hid hsz2; clear hsz2; have hcl := hr2.cell 72 (hash72 ws rs2 L HWL.out HRL.out); have hfz := hr2.free 72)
          go_roundg (gk - k)
          case measure => omega
          case rel =>
            have hfin := hash_more HLD.out HHL.out HX.out (by omega) HRS.out HT.out HR2.out HWS.out hr2
            have hset : w2.grownBy (w2.setCell ⟨g, 72, none⟩ (.int .i64 ((L : Int) + (k : Int)))) (some g) := ⟨rfl, rfl, rfl, by simp [World.setCell], fun i _ hi => Below.heap_setCell _ _ _ _ (fun e => hi (by simp [e]))⟩
            have hTB := (HTB.out.grown hgr2 (fun x hx => by cases hx; exact hn' ⟨b, so, none⟩ rfl)).grown hset (fun x hx => by cases hx; exact hn' ⟨b, so, none⟩ rfl)
            refine ⟨some ⟨b, so + k, none⟩, c' - k, done ++ rem.take k, rem.drop k, rfl, hTB, fun x hx => by cases hx; exact hn' ⟨b, so, none⟩ rfl, ?_, ?_, (hT.grown hgr2 hg2).grown hset hg2, grownBy_trans (grownBy_trans hgr hgr2) hset⟩
            · show m = _
              rw [hsplit.out, List.append_assoc, List.take_append_drop]
            · rw [← List.append_assoc, ← HD.out]; exact hfin
#print axioms copy_row
end Go.Proofs.YtkjgcgdfofheeaaDoor
