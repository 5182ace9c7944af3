/-
  Apply walked, where the edits can be done.
-/
import Derived.Test.YthhhfonhcnkogaaDoorMyLawMath
import Derived.Test.YthhhfonhcnkogaaDoorUtfText
import Derived.BigQuiet
namespace Go.Proofs.YthhhfonhcnkogaaDoor
open Go.RowKit My

/-- Edits done, runes on the one side, bytes on the other. -/
def goV : List Int → List EdV → Option (List UInt8)
  | x, [] => if x = [] then some [] else none
  | x, e :: l => if 0 ≤ e.k ∧ e.k ≤ x.length ∧ 0 ≤ e.d ∧ e.d ≤ x.length - e.k then (goV (x.drop (e.k + e.d).toNat) l).map fun r => txt (x.take e.k.toNat) ++ e.s ++ r else none
theorem drop_gd {L : List EdV} {j : Nat} (hj : j < L.length) : L.drop j = gd L j :: L.drop (j + 1) := by
  have e : gd L j = L[j] := by unfold gd; simp [hj]
  rw [e]; exact List.drop_eq_getElem_cons hj
theorem goV_next {x : List Int} {L : List EdV} {j : Nat} {r : List UInt8} (hj : j < L.length) (h : goV x (L.drop j) = some r) :
    ∃ (k d : Nat) (q : List UInt8), (gd L j).k = (k : Int) ∧ (gd L j).d = (d : Int) ∧ k + d ≤ x.length ∧ goV (x.drop (k + d)) (L.drop (j + 1)) = some q ∧ r = txt (x.take k) ++ (gd L j).s ++ q := by
  rw [drop_gd hj, goV] at h
  split at h
  · rename_i h1
    obtain ⟨h1, h2, h3, h4⟩ := h1
    obtain ⟨q, hq, rfl⟩ := Option.map_eq_some_iff.1 h
    refine ⟨(gd L j).k.toNat, (gd L j).d.toNat, q, by omega, by omega, by omega, ?_, rfl⟩
    rw [show (gd L j).k.toNat + (gd L j).d.toNat = ((gd L j).k + (gd L j).d).toNat by omega]
    exact hq
  · cases h
theorem goV_end {x : List Int} {L : List EdV} {j : Nat} {r : List UInt8} (hj : j = L.length) (h : goV x (L.drop j) = some r) : x = [] ∧ r = [] := by
  subst hj
  rw [List.drop_length, goV] at h
  split at h
  · rename_i h1; exact ⟨h1, (Option.some.inj h).symm⟩
  · cases h

theorem Runs.cut_ {w : World} {b off n c : Nat} {l : List Int} (h : Runs w (some ⟨b, off, none⟩) n c l) (lo m : Nat) (hm : lo + m ≤ n) :
    Runs w (some ⟨b, off + lo, none⟩) m (c - lo) ((l.drop lo).take m) := by
  obtain ⟨h1, h2, h3, h4⟩ := h
  refine ⟨by simp; omega, by omega, by omega, .inr ⟨_, _, rfl, fun j hj => ?_⟩⟩
  rcases h4 with ⟨_, _⟩ | ⟨b', off', ha, hc⟩
  · omega
  · simp only [Option.some.injEq, Addr.mk.injEq, and_true] at ha
    obtain ⟨rfl, rfl⟩ := ha
    have := hc (lo + j) (by omega)
    rw [show off + lo + j = off + (lo + j) from by omega, this]
    simp [hj]
theorem Runs.dropped {w : World} {ta : Option Addr} {n c m : Nat} {L : List Int} (h : Runs w ta n c L) (hm : m ≤ n) : Runs w (if c = m then ta else ta.map (·.add (m * 1))) (n - m) (c - m) (L.drop m) := by
  have h0 := h
  obtain ⟨h1, h2, h3, h4⟩ := h
  by_cases hc : c = m
  · exact ⟨by simp; omega, by omega, by omega, .inl ⟨by omega, by omega⟩⟩
  · rw [if_neg hc]
    rcases h4 with ⟨rfl, rfl⟩ | ⟨b, off, rfl, _⟩
    · omega
    · have := h0.cut_ m (n - m) (by omega)
      rw [List.take_of_length_le (by simp; omega)] at this
      show Runs w (some ((⟨b, off, none⟩ : Addr).add (m * 1))) _ _ _
      rw [show (⟨b, off, none⟩ : Addr).add (m * 1) = ⟨b, off + m, none⟩ by simp [Addr.add]]
      exact this
theorem Runs.taken {w : World} {ta : Option Addr} {n c m : Nat} {L : List Int} (h : Runs w ta n c L) (hm : m ≤ n) : Runs w (if c = 0 then ta else ta.map (·.add (0 * 1))) m c (L.take m) := by
  have h0 := h
  obtain ⟨h1, h2, h3, h4⟩ := h
  by_cases hc : c = 0
  · exact ⟨by simp; omega, by omega, by omega, .inl ⟨by omega, by omega⟩⟩
  · rw [if_neg hc]
    rcases h4 with ⟨rfl, rfl⟩ | ⟨b, off, rfl, _⟩
    · omega
    · have := h0.cut_ 0 m (by omega)
      rw [List.drop_zero, Nat.sub_zero] at this
      rw [Nat.mul_one]
      exact this
theorem wl_drop {w w0 : World} {ops : Array Oper} {rest : List Oper} {o : Oper} {a : Act} {Q : Exit → Act → World → Prop} (hgd : o.guard = none) (s lo : Operand) (ho : o.op = .slice 22 s (some lo) none none)
    (ta : Option Addr) (n tc : Nat) (V : Int) (m : Nat) (L : List Int) (hs : a.eval s = .slice ta n tc) (hlo : a.eval lo = .int .i64 V) (hV : V = (m : Int)) (hm : m ≤ n) (h : Runs w0 ta n tc L)
    (hK : ∀ ta' tc', Runs w0 ta' (n - m) tc' (L.drop m) → wpList Tryd.prog ops Q rest (a.put o.dst (.slice ta' (n - m) tc')) w) : wpList Tryd.prog ops Q (o :: rest) a w := by
  subst hV
  have hU := Tryd.underlying22
  have hrun : (Instr.sliceAt 22 (.slice ta n tc) (some (.int .i64 (m : Int))) none none).run Tryd.prog w = .ok (.slice (if tc = m then ta else ta.map (·.add (m * 1))) (n - m) (tc - m)) w := by
    simp [go_sem, hU, hm]
  refine wpList_plain hgd fun K' hK' => ?_
  unfold Oper.wp
  simp [execOp, ho, hs, hlo, hrun, Result.andThen]
  refine hK' _ _ ?_
  have := hK _ _ (h.dropped hm)
  simpa using this
theorem wl_take {w w0 : World} {ops : Array Oper} {rest : List Oper} {o : Oper} {a : Act} {Q : Exit → Act → World → Prop} (hgd : o.guard = none) (s hi : Operand) (ho : o.op = .slice 22 s none (some hi) none)
    (ta : Option Addr) (n tc : Nat) (V : Int) (m : Nat) (L : List Int) (hs : a.eval s = .slice ta n tc) (hhi : a.eval hi = .int .i64 V) (hV : V = (m : Int)) (hm : m ≤ n) (h : Runs w0 ta n tc L)
    (hK : ∀ ta' tc', Runs w0 ta' m tc' (L.take m) → wpList Tryd.prog ops Q rest (a.put o.dst (.slice ta' m tc')) w) : wpList Tryd.prog ops Q (o :: rest) a w := by
  subst hV
  have hU := Tryd.underlying22
  have hmc : m ≤ tc := Nat.le_trans hm h.2.1
  have hrun : (Instr.sliceAt 22 (.slice ta n tc) none (some (.int .i64 (m : Int))) none).run Tryd.prog w = .ok (.slice (if tc = 0 then ta else ta.map (·.add (0 * 1))) m tc) w := by
    simp [go_sem, hU, hmc]
  refine wpList_plain hgd fun K' hK' => ?_
  unfold Oper.wp
  simp [execOp, ho, hs, hhi, hrun, Result.andThen]
  refine hK' _ _ ?_
  have := hK _ _ (h.taken hm)
  simpa using this

/-- A builder of the call's own, where more was laid behind it. -/
theorem Bld.below {b : Nat} {l : List UInt8} {w w' : World} (h : Bld b l w) (hb : Below w.heap.size w w') : Bld b l w' := by
  have one : ∀ p, Lib.BuilderAt 61 5 b b p (Lib.byteCells l) w → Lib.BuilderAt 61 5 b b p (Lib.byteCells l) w' := fun p h1 => by
    have hlt := h1.lt
    obtain ⟨hB, v, hh, hown, hne⟩ := h1
    refine ⟨hB, v, (hb.block b hlt).trans hh, hown.kept (row := none) ⟨hb.os, hb.tape, hb.output, hb.size, fun k hk _ => hb.block k hk⟩ (Classical.em _), hne⟩
  rcases h with h | h
  · exact .inl (one _ h)
  · exact .inr (one _ h)
/-- Rows of another type stand. -/
def KeepsRow (w w' : World) : Prop := ∀ (q : Nat) (cs : Array Value) (T : TypeId) (fr : Nat × Nat), w.heap[q]? = some (.cells cs T fr) → T ≠ 5 → T ≠ 61 → w'.heap[q]? = some (.cells cs T fr)
theorem ne_of_heap {w : World} {b q : Nat} {cs ds : Array Value} {S T : TypeId} {fr gr : Nat × Nat} (h1 : w.heap[b]? = some (.cells cs S fr)) (h2 : w.heap[q]? = some (.cells ds T gr)) (h : T ≠ S) : q ≠ b := fun e => by
  subst e
  rw [h1] at h2
  simp only [Option.some.injEq, Obj.cells.injEq] at h2
  exact h h2.2.1.symm
theorem copyCheck_row (B b : Nat) (bs : List Value) (w : World) (h : Lib.IsBuilder 61 5 B b bs w) :
    Calls Tryd.prog 41 #[.pointer (some ⟨b, 0, none⟩)] w fun e w' => e = .returned (.tuple #[]) ∧ (Lib.BuilderAt 61 5 B b (.pointer (some ⟨b, 0, none⟩)) bs w' ∧ Below B w w') ∧ KeepsRow w w' := by
  rcases h with h | h
  · refine (check_fresh b w h.cell0 h.shape h.frozen0).mono ?_
    rintro e w' ⟨rfl, rfl⟩
    refine ⟨rfl, ⟨h.used _, (Below.refl B w).setCell (p := ⟨b, 0, none⟩) h.1 _⟩, fun q cs T fr hq _ hT => ?_⟩
    obtain ⟨_, v, hb, _⟩ := h
    exact (Below.heap_setCell _ _ _ _ (ne_of_heap hb hq hT)).trans hq
  · refine (check_used b w h.cell0).mono ?_
    rintro e w' ⟨rfl, rfl⟩
    exact ⟨rfl, ⟨h, Below.refl B _⟩, fun q cs T fr hq _ _ => hq⟩

set_option maxHeartbeats 2000000 in
set_option maxRecDepth 100000 in
theorem writeString_row (B b : Nat) (bs : List Value) (s : ByteArray) (w : World) (h : Lib.IsBuilder 61 5 B b bs w) (hlen : bs.length + s.size ≤ 140737488355328) (hBw : B ≤ w.heap.size) :
    Calls Tryd.prog 29 #[.pointer (some ⟨b, 0, none⟩), .string s] w fun e w' => e = .returned (.tuple #[.int .i64 s.size, .nilIface]) ∧ (Lib.BuilderAt 61 5 B b (.pointer (some ⟨b, 0, none⟩)) (bs ++ Lib.strCells s) w' ∧ Below B w w') ∧ KeepsRow w w' := by
  obtain ⟨i0, hi, hz0, hz1, hz2⟩ := info_parts Tryd.info5
  go_enter Tryd.func29, Tryd.ntmps29
  go_wp2_with (go_at_call 41; refine (copyCheck_row B b bs _ h).mono ?_)
  rintro e w1 ⟨rfl, ⟨h1, hb1⟩, hk1⟩
  obtain ⟨hB, v, hbk, hown, hne⟩ := h1
  have HK1 := Lib.hid hk1
  clear hk1
  have c0 : w1.cell? ⟨b, 0, none⟩ = some (.pointer (some ⟨b, 0, none⟩)) := by rw [Lib.cell_of_heap hbk]; rfl
  have c1 : w1.cell? ⟨b, 1, none⟩ = some v := by rw [Lib.cell_of_heap hbk]; rfl
  go_wp2_with (at_builtin; refine Lib.wpList_append_own_string _ rfl _ _ 23 9 rfl B 5 i0 Tryd.underlying23 Tryd.underlying9 hi hz0 hz1 hz2 _ _ _ rfl hown s rfl ?c3 ?c4 ?c5 ?_)
  case c3 => unfold maxLen; omega
  case c4 => omega
  case c5 => have := hb1.size; omega
  intro v' w2 hown' hgrow _
  have hlt : b < w1.heap.size := by
    rcases Nat.lt_or_ge b w1.heap.size with h' | h'
    · exact h'
    · simp [Array.getElem?_eq_none h'] at hbk
  have hb2 : w2.heap[b]? = some (.cells #[.pointer (some ⟨b, 0, none⟩), v] 61 (0, 0)) := by
    rw [hgrow.block b hlt (fun e => hne e.symm)]
    exact hbk
  have HK2 := Lib.hid (show ∀ (q : Nat) (cs : Array Value) (T : TypeId) (fr : Nat × Nat), w1.heap[q]? = some (.cells cs T fr) → T ≠ 5 → w2.heap[q]? = some (.cells cs T fr) from fun q cs T fr hq hT => by
    have hlq : q < w1.heap.size := by
      rcases Nat.lt_or_ge q w1.heap.size with h' | h'
      · exact h'
      · simp [Array.getElem?_eq_none h'] at hq
    exact (hgrow.block q hlq (fun e => Lib.ownBlock_ne hown hq hT e.symm)).trans hq)
  have d0 : w2.cell? ⟨b, 0, none⟩ = some (.pointer (some ⟨b, 0, none⟩)) := by rw [Lib.cell_of_heap hb2]; rfl
  have d1 : w2.cell? ⟨b, 1, none⟩ = some v := by rw [Lib.cell_of_heap hb2]; rfl
  have f1 : w2.frozen? ⟨b, 1, none⟩ = false := Lib.frozen_of_heap hb2 1
  obtain ⟨ao, n', cap, rfl⟩ : ∃ ao n' cap, v' = .slice ao n' cap := by
    rcases hown'.2 with ⟨hv, _⟩ | ⟨g, cap, cur, hv, _⟩
    · exact ⟨_, _, _, hv⟩
    · exact ⟨_, _, _, hv⟩
  go_wp2
  go_ret2
  refine ⟨rfl, ⟨?_, ?_⟩, fun q cs T fr hq hT hS => ?_⟩
  · exact Lib.BuilderAt.put (T := 61) (e := 5) hB hb2 (bs' := bs ++ Lib.strCells s) (by simpa [Lib.strCells_length] using hown') (by decide)
  · exact (hb1.grown hgrow (by have := hb1.size; omega) (fun k hk => (hown.lt k hk).1)).setCell (p := ⟨b, 1, none⟩) hB _
  · have h2 := HK2.out q cs T fr (HK1.out q cs T fr hq hT hS) hT
    exact (Below.heap_setCell _ _ _ _ (ne_of_heap hb2 h2 hS)).trans h2
#print axioms writeString_row

/-- What Apply answers where it can be done. -/
def ApIs (r : List UInt8) (w : World) (e : Ending) (w' : World) : Prop := e = .returned (.tuple #[.string (strB r), .int .i64 0]) ∧ Below w.heap.size w w'
/-- Where the second loop stands. -/
structure ApAt (L : List EdV) (r : List UInt8) (j : Nat) (rest : List Int) (out : List UInt8) : Prop where
  more : ∃ q, goV rest (L.drop j) = some q ∧ r = out ++ q
  few : rest.length ≤ 20000000
  out : out.length ≤ j * 100000000
  ok : OkTo rest rest.length
theorem OkTo.taken {L : List Int} (h : OkTo L L.length) (k : Nat) : OkTo (L.take k) (L.take k).length := fun i hi => by
  rw [List.length_take] at hi
  have := h i (by omega)
  rwa [show (L.take k).getD i 0 = L.getD i 0 by simp [show i < k by omega]]
theorem OkTo.dropped {L : List Int} (h : OkTo L L.length) (k : Nat) : OkTo (L.drop k) (L.drop k).length := fun i hi => by
  rw [List.length_drop] at hi
  have := h (k + i) (by omega)
  rwa [show (L.drop k).getD i 0 = L.getD (k + i) 0 by simp]
theorem ApAt.next {L : List EdV} {r out : List UInt8} {j k d : Nat} {rest : List Int} (h : ApAt L r j rest out) (hx : (gd L j).s.length ≤ 20000000) (hkd : k + d ≤ rest.length) (hq : ∃ q, goV (rest.drop (k + d)) (L.drop (j + 1)) = some q ∧ r = out ++ (txt (rest.take k) ++ (gd L j).s ++ q)) :
    ApAt L r (j + 1) (rest.drop (k + d)) (out ++ txt (rest.take k) ++ (gd L j).s) := by
  obtain ⟨q, h1, h2⟩ := hq
  refine ⟨⟨q, h1, by rw [h2]; simp⟩, by have := h.few; rw [List.length_drop]; omega, ?_, h.ok.dropped _⟩
  have h3 := txt_le (rest.take k)
  have h4 := h.out
  have h5 := h.few
  rw [List.length_take] at h3
  simp only [List.length_append]
  omega
set_option maxRecDepth 100000 in
set_option maxHeartbeats 4000000 in
theorem apply_yes (s : ByteArray) (a : Option Addr) (n c : Nat) (L : List EdV) (x : List Nat) (p : Nat) (r : List UInt8) (w : World) (hs : s.size ≤ 20000000) (hx : runesF s.data.toList = (some x, p)) (h : AtG edK w a n c L) (hM : Mild L) (hok : ∀ e ∈ L, chkE e.s = (0, 0)) (hr : goV (zs x) L = some r) (hT : Tabs w) :
    Calls Tryd.prog 16 #[.string s, .slice a n c] w (ApIs r w) := by
  have R1 := Lib.hid (runes_any s w (by omega) hT)
  rw [runE_some hx] at R1
  have HL := Lib.hid h
  have HLN := Lib.hid h.1
  have HMI := Lib.hid hM
  have HT := Lib.hid hT
  have HOK := Lib.hid hok
  have hnI : (n : Int) ≤ 100000 := by have := hM.few; have := h.1; omega
  have HA := Lib.hid (show ApAt L r 0 (zs x) [] from ⟨⟨r, hr, rfl⟩, by
    have h1 := runesF_len hx
    have h2 : s.data.toList.length = s.size := by rw [Array.length_toList]; rfl
    rw [zs_length]; omega, by simp, ok_zs (runesF_some hx).1⟩)
  clear hs hx h hM hok hr hT
  go_enter Tryd.func16, Tryd.ntmps16
  go_wp2_with (go_at_call 24; (refine R1.out.mono ?_); rintro en w3 ⟨a3, n3, c3, rfl, ho3, hb3⟩; have HB3 := Lib.hid hb3; have HO3 := Lib.hid ho3.isRuns; clear ho3 hb3)
  go_loopg [31] n (fun gh v31 W => ∃ i : Nat, v31 = .int .i64 i ∧ gh + i = n ∧ Hid (Below w.heap.size w W) ∧ Hid (Runs W a3 n3 c3 (zs x)))
  case atStart => exact ⟨0, rfl, rfl, HB3, HO3⟩
  case round =>
    obtain ⟨i, rfl, hgh, HB, HO⟩ := hrel
    have HGH := Lib.hid hgh
    have hi0 : (0 : Int) ≤ (i : Int) := by omega
    have hin : (i : Int) ≤ (n : Int) := by omega
    clear hgh
    by_cases hi : (i : Int) < (n : Int)
    · have hib : decide (i < n) = true := by simp; omega
      have HI := Lib.hid (show i < n by omega)
      have HLw := Lib.hid (HL.out.below HB.out)
      obtain ⟨b, off, rfl⟩ := HL.out.some_ (by omega)
      have hx := HLw.out.at_ i HI.out
      have hmem := gd_mem (L := L) (i := i) (by rw [HLN.out]; exact HI.out)
      have hxl := HMI.out.s _ hmem
      have hxo := HOK.out _ hmem
      obtain ⟨x, hxg⟩ : ∃ x, gd L i = x := ⟨_, rfl⟩
      rw [hxg] at hx hxl hxo
      have CT := Lib.hid (fun W (hb : Below w.heap.size w W) => check_any (strB x.s) W (by rw [strB_size]; omega) (HT.out.below hb))
      rw [strB_list, hxo] at CT
      have x0 : wr.cell? ⟨b, off + i * 3, none⟩ = some (.int .i64 x.k) := hx 0 (.int .i64 x.k) rfl
      have x1 : wr.cell? ⟨b, off + i * 3 + 1, none⟩ = some (.int .i64 x.d) := hx 1 (.int .i64 x.d) rfl
      have x2 : wr.cell? ⟨b, off + i * 3 + 2, none⟩ = some (.string (strB x.s)) := hx 2 (.string (strB x.s)) rfl
      clear hx hxg hmem hxl hxo
      go_wp2_with (first
        | (go_at_call 27; (refine (CT.out _ (HB.out.alloc HB.out.size _)).mono ?_); rintro en w4 ⟨rfl, hb4⟩
           have HBL4 := Lib.hid (((Below.refl wr.heap.size wr).alloc (Nat.le_refl _) (.cells #[.int .i64 x.k, .int .i64 x.d, .string (strB x.s)] 39)).trans (hb4.mono (by simp)))
           clear hb4 x0 x1 x2))
      go_roundg (n - (i + 1))
      case measure => have := HGH.out; have := HI.out; omega
      case rel => exact ⟨i + 1, by go_num, by have := HGH.out; have := HI.out; omega, Lib.hid (HB.out.trans (HBL4.out.mono HB.out.size)), Lib.hid (HO.out.below HBL4.out)⟩
    · have hib : decide (i < n) = false := by simp; omega
      have hB0 : Bld wr.heap.size [] (wr.alloc (.cells #[.pointer none, .slice none 0 0] 61)) := Lib.fresh_isBuilder _ _ wr
      have HB0 := Lib.hid hB0
      have HLw := Lib.hid (HL.out.below HB.out)
      clear hB0 hi
      obtain ⟨W1, hW1⟩ : ∃ W, W = wr := ⟨_, rfl⟩
      subst hW1
      obtain ⟨b0, hb0⟩ : ∃ b, W1.heap.size = b := ⟨_, rfl⟩
      have HBE := Lib.hid hb0
      rw [hb0] at HB0
      go_wp2_with fail
      go_loopg [6, 47] n (fun gh v6 v47 W => ∃ (j : Nat) (la : Option Addr) (ln lc : Nat) (rest : List Int) (out : List UInt8), v47 = .int .i64 j ∧ v6 = .slice la ln lc ∧ gh + j = n ∧ Hid (Below W1.heap.size W1 W) ∧ Hid (Runs W1 la ln lc rest) ∧ Hid (Bld b0 out W) ∧ Hid (b0 < W.heap.size) ∧ Hid (ApAt L r j rest out))
      case atStart => exact ⟨0, a3, n3, c3, zs x, [], rfl, rfl, rfl, Lib.hid ((Below.refl _ _).alloc (Nat.le_refl _) _), HO, HB0, Lib.hid (by simp [← hb0]), HA⟩
      case round =>
        obtain ⟨j, la, ln, lc, rest, out, rfl, rfl, hgj, HBW, HR, HBL, HLT, HAT⟩ := hrel
        have HGJ := Lib.hid hgj
        have hj0 : (0 : Int) ≤ (j : Int) := by omega
        have hjn : (j : Int) ≤ (n : Int) := by omega
        clear hgj hb0
        by_cases hj : (j : Int) < (n : Int)
        · have hjb : decide (j < n) = true := by simp; omega
          have HJ := Lib.hid (show j < n by omega)
          have HL2 := Lib.hid (HLw.out.below HBW.out)
          obtain ⟨b, off, rfl⟩ := HL2.out.some_ (by omega)
          have hx := HL2.out.at_ j HJ.out
          have hmem := gd_mem (L := L) (i := j) (by rw [HLN.out]; exact HJ.out)
          obtain ⟨q, hq, hrq⟩ := HAT.out.more
          obtain ⟨kn, dn, q2, hk, hd, hkd, hq2, hqq⟩ := goV_next (by rw [HLN.out]; exact HJ.out) hq
          have hsl := HMI.out.s _ hmem
          have AN := HAT.out.next hsl hkd ⟨q2, hq2, by rw [hrq, hqq]⟩
          obtain ⟨xs, hxs⟩ : ∃ s, (gd L j).s = s := ⟨_, rfl⟩
          rw [hxs] at AN hsl
          have x0 : wr.cell? ⟨b, off + j * 3, none⟩ = some (.int .i64 (kn : Int)) := hx 0 (.int .i64 (kn : Int)) (by simp [edK, edC, hk])
          have x1 : wr.cell? ⟨b, off + j * 3 + 1, none⟩ = some (.int .i64 (dn : Int)) := hx 1 (.int .i64 (dn : Int)) (by simp [edK, edC, hd])
          have x2 : wr.cell? ⟨b, off + j * 3 + 2, none⟩ = some (.string (strB xs)) := hx 2 (.string (strB xs)) (by simp [edK, edC, hxs])
          have HAN := Lib.hid AN
          have hln : rest.length = ln := HR.out.1
          rw [hln] at hkd
          have HKD := Lib.hid hkd
          have HKL := Lib.hid (show kn ≤ ln by omega)
          have hl2 := HAT.out.few
          rw [hln] at hl2
          have hlI : (ln : Int) ≤ 20000000 := by omega
          have hk0 : (0 : Int) ≤ (kn : Int) := by omega
          have hd0 : (0 : Int) ≤ (dn : Int) := by omega
          have hkI : (kn : Int) ≤ (ln : Int) := by omega
          have hkdI : (kn : Int) + (dn : Int) ≤ (ln : Int) := by omega
          have z1 : decide ((kn : Int) < 0) = false := by simp
          have z2 : decide ((ln : Int) < (kn : Int)) = false := by simp; omega
          have z2b : decide (ln < kn) = false := by simp; omega
          have z3 : decide ((dn : Int) < 0) = false := by simp
          have z4 : decide ((ln : Int) - (kn : Int) < (dn : Int)) = false := by simp; omega
          have HTE := Lib.hid (txtE_yes (HAT.out.ok.taken kn))
          have HSL := Lib.hid (show out.length + (txt (rest.take kn)).length + xs.length ≤ 140737488355328 by
            have h1 := HAN.out.out
            simp only [List.length_append] at h1
            have h2 : j ≤ 100000 := by omega
            omega)
          clear hx hmem hq hrq hk hd hkd hq2 hqq hsl AN hxs hln hl2
          go_wp2_with fail
          go_quiet (fail)
          obtain ⟨w4, hw4⟩ : ∃ W, (wr.alloc (.cells #[.int .i64 (kn : Int), .int .i64 (dn : Int), .string (strB xs)] 39)).drewN nq = W := ⟨_, rfl⟩
          have HB4 := Lib.hid (show Below wr.heap.size wr w4 from hw4 ▸ ((Below.refl wr.heap.size wr).alloc (Nat.le_refl _) _).trans ((below_drewN _ nq).mono (by simp)))
          have E4 := Lib.hid (show w4.heap[wr.heap.size]? = some (.cells #[.int .i64 (kn : Int), .int .i64 (dn : Int), .string (strB xs)] 39 (0, 0)) by rw [← hw4, (below_drewN _ nq).block _ (by simp)]; first | exact heap_alloc_new _ _ | exact Lib.heap_alloc_new _ _)
          have S4 := Lib.hid (show wr.heap.size < w4.heap.size by have := (below_drewN (wr.alloc (.cells #[.int .i64 (kn : Int), .int .i64 (dn : Int), .string (strB xs)] 39)) nq).size; rw [hw4] at this; simp at this; omega)
          obtain ⟨eb, heb⟩ : ∃ b, wr.heap.size = b := ⟨_, rfl⟩
          rw [hw4, heb]
          rw [heb] at E4 S4
          clear hw4 heb x0 x1 x2
          go_wp2_with (first
            | (refine wl_take rfl _ _ rfl la ln lc (kn : Int) kn rest rfl rfl rfl HKL.out HR.out ?_; intro ta5 tc5 hr5; have TX := Lib.hid (fun W (hb : Below W1.heap.size W1 W) => HTE.out ▸ text_any ta5 kn tc5 (rest.take kn) W (hr5.below hb) (by have := HKL.out; have := HAT.out.few; have := HR.out.1; omega)); clear hr5)
            | (go_at_call 28; (refine (TX.out _ (HBW.out.trans (HB4.out.mono HBW.out.size))).mono ?_); rintro en w5 ⟨rfl, hb5⟩
               have HB5 := Lib.hid (HB4.out.trans (hb5.mono HB4.out.size))
               have E5 := Lib.hid ((hb5.block eb S4.out).trans E4.out)
               have W5 := Lib.hid (writeString_row b0 b0 _ (strB (txt (rest.take kn))) w5 (HBL.out.below HB5.out) (by rw [Lib.byteCells_length, strB_size]; have := HSL.out; omega) (by have := HLT.out; have := HB5.out.size; omega))
               clear hb5)
            | (go_at_call 29; have Q1 := Q0; (refine W6.out.mono ?_); rintro en w7 ⟨rfl, ⟨hbl7, hb7⟩, hk7⟩
               have HBL7 := Lib.hid (show Bld b0 (out ++ txt (rest.take kn) ++ xs) w7 by unfold Bld; rw [Lib.byteCells_append, ← strCells_strB xs]; exact .inr hbl7)
               have HB7 := Lib.hid (HB6.out.trans (HBE.out ▸ hb7))
               have S7 := Lib.hid (show b0 < w7.heap.size by have := hb7.size; have := S6.out; omega)
               clear hbl7 hb7 hk7 c6)
            | (go_at_call 29; (refine W5.out.mono ?_); rintro en w6 ⟨rfl, ⟨hbl6, hb6⟩, hk6⟩
               have HBL6 := Lib.hid (show Bld b0 (out ++ txt (rest.take kn)) w6 by unfold Bld; rw [Lib.byteCells_append, ← strCells_strB (txt (rest.take kn))]; exact .inr hbl6)
               have HB6 := Lib.hid ((HBW.out.trans (HB5.out.mono HBW.out.size)).trans (HBE.out ▸ hb6))
               have S6 := Lib.hid (show b0 < w6.heap.size by have := hb6.size; have := HLT.out; have := HB5.out.size; omega)
               have E6 := hk6 eb _ _ _ E5.out (by decide) (by decide)
               have c6 : w6.cell? ⟨eb, 2, none⟩ = some (.string (strB xs)) := by rw [Lib.cell_of_heap E6]; rfl
               have W6 := Lib.hid (writeString_row b0 b0 _ (strB xs) w6 HBL6.out (by rw [Lib.byteCells_length, strB_size, List.length_append]; have := HSL.out; omega) (by have := S6.out; omega))
               have Q0 := trivial
               clear hbl6 hb6 hk6 E6)
            | (refine wl_drop rfl _ _ rfl la ln lc ((kn : Int) + (dn : Int)) (kn + dn) rest rfl rfl (by simp) HKD.out HR.out ?_; intro ta8 tc8 hr8; have HR8 := Lib.hid hr8; clear hr8))
          go_roundg (n - (j + 1))
          case measure => have := HGJ.out; have := HJ.out; omega
          case rel => exact ⟨j + 1, ta8, ln - (kn + dn), tc8, rest.drop (kn + dn), out ++ txt (rest.take kn) ++ xs, by go_num, rfl, by have := HGJ.out; have := HJ.out; omega, HB7, HR8, HBL7, S7, HAN⟩
        · have hjb : decide (j < n) = false := by simp; omega
          have hj2 : j = L.length := by rw [HLN.out]; omega
          obtain ⟨q, hq, hrq⟩ := HAT.out.more
          obtain ⟨rfl, rfl⟩ := goV_end hj2 hq
          rw [List.append_nil] at hrq
          subst hrq
          obtain rfl : ln = 0 := HR.out.1.symm
          have BS := Lib.hid (Tryd.Builder_String_any b0 b0 r wr HBL.out (by have := HLT.out; omega))
          clear hj hj2 hq
          go_wp2_with (go_at_call 30; (refine BS.out.mono ?_); rintro en w9 ⟨rfl, hb9⟩; have HB9 := Lib.hid hb9; clear hb9)
          go_ret2
          exact ⟨rfl, HB.out.trans ((HBW.out.trans (HB9.out.mono (Nat.le_of_eq HBE.out))).mono HB.out.size)⟩
#print axioms apply_yes
end Go.Proofs.YthhhfonhcnkogaaDoor
