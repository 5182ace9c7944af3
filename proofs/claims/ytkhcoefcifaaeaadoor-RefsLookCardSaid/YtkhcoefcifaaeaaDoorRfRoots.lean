/-
  The walk of Roots: all ids that refs tell, as a set.
-/
import Derived.Test.YtkhcoefcifaaeaaDoorRfConcat
import Derived.Test.YtkhcoefcifaaeaaDoorGrp17
import Derived.Test.YtkhcoefcifaaeaaDoorIdPart
import Derived.Test.YtkhcoefcifaaeaaDoorRfApply
namespace Go.Proofs.YtkhcoefcifaaeaaDoor
open Go.RowKit

def two32 (x y : List UInt8) : Array Value := (x.map B ++ y.map B).toArray
theorem run_two (w : World) {x y : List UInt8} (hx : x.length = 32) (hy : y.length = 32) : (Instr.buildSlice 39 2 #[(0, .agg (idCells x)), (1, .agg (idCells y))]).run Tryd.prog w = .ok (.slice (some ⟨w.heap.size, 0, none⟩) 2 2) (w.alloc (.cells (two32 x y) 24)) := by
  obtain ⟨i0, hi, hz0, hz1, hz2⟩ := info_parts Tryd.infoI24
  obtain ⟨r, h1, h2, h3⟩ := Great.fill_dense (s := 32) (by omega) [.agg (idCells x), .agg (idCells y)] 0 ((Array.range (2 * 32)).map ((Value.agg (idCells idZero)).cells[· % (Value.agg (idCells idZero)).cells.size]!)) (fun v hv => by
    simp only [List.mem_cons, List.not_mem_nil, or_false] at hv
    rcases hv with rfl | rfl
    · exact idCells_size hx
    · exact idCells_size hy) (by simp)
  have e : r = two32 x y := by
    apply Array.ext_getElem?
    intro k
    rw [h3 k]
    have hsz : (two32 x y).size = 64 := by simp [two32, hx, hy]
    by_cases hk : k < 64
    · rw [if_pos (by simp; omega)]
      unfold two32
      rw [List.getElem?_toArray]
      by_cases hk2 : k < 32
      · rw [List.getElem?_append_left (by simp [hx]; omega), show k / 32 - 0 = 0 from by omega, Nat.mod_eq_of_lt hk2]
        show (idCells x)[k]? = _
        simp [idCells]
      · rw [List.getElem?_append_right (by simp [hx]; omega), show k / 32 - 0 = 1 from by omega, show k % 32 = k - 32 from by omega]
        show (idCells y)[k - 32]? = _
        simp [idCells, hx]
    · rw [if_neg (by simp; omega), Array.getElem?_eq_none (by simp; omega), Array.getElem?_eq_none (by omega)]
  refine run_buildSlice w _ _ 2 _ (two32 x y) i0 _ Tryd.underlying39 hi hz0 (by rw [hz1]; omega) (by rw [hz1]; omega) ?_
  rw [hz1]
  rw [e] at h1
  exact h1
theorem wl_two {w : World} {ops : Array Oper} {rest : List Oper} {o : Oper} {a : Act} {Q : Exit → Act → World → Prop} (hgd : o.guard = none) (x y : Operand) (ho : o.op = .buildSlice 39 2 #[(0, x), (1, y)])
    (l m : List UInt8) (hl : l.length = 32) (hm : m.length = 32) (hx : a.eval x = .agg (idCells l)) (hy : a.eval y = .agg (idCells m))
    (h : wpList Tryd.prog ops Q rest (a.put o.dst (.slice (some ⟨w.heap.size, 0, none⟩) 2 2)) (w.alloc (.cells (two32 l m) 24))) : wpList Tryd.prog ops Q (o :: rest) a w := by
  refine wpList_ok hgd ?_ h
  unfold execOp
  simp only [ho, List.map_toArray, List.map_cons, List.map_nil, hx, hy, Sem.run_bind, run_two w hl hm, Result.andThen_ok, Sem.run_pure]
theorem ids_two (w : World) {x y : List UInt8} (hx : x.length = 32) (hy : y.length = 32) : IdsAt (w.alloc (.cells (two32 x y) 24)) (some ⟨w.heap.size, 0, none⟩) 2 2 [x, y] :=
  ⟨rfl, Nat.le_refl _, by omega, (fun z hz => by
    simp only [List.mem_cons, List.not_mem_nil, or_false] at hz
    rcases hz with rfl | rfl
    · exact hx
    · exact hy), .inr ⟨_, 0, rfl, fun j v hv => by
    have e : flat [x, y] = x.map B ++ y.map B := by simp [flat]
    rw [e] at hv
    rw [Nat.zero_add, World.cell?_alloc_new]
    unfold two32
    rw [List.getElem?_toArray]; exact hv⟩⟩
theorem own_one (w : World) {x : List UInt8} (hx : x.length = 32) : OwnI (w.alloc (.cells (idCells x) 24)) w.heap.size (.slice (some ⟨w.heap.size, 0, none⟩) 1 1) [x] := by
  refine ⟨⟨?_, .inr ⟨w.heap.size, 1, idCells x, rfl, Nat.le_refl _, heap_alloc_new w _, Nat.le_refl _, by decide, ?_, ?_⟩⟩, fun z hz => by simp only [List.mem_singleton] at hz; subst hz; exact hx⟩
  · simp [flat, hx]
  · exact idCells_size hx
  · rw [List.take_of_length_le (by simp [idCells, hx])]
    simp [flat, idCells]
theorem own_ne {w : World} {b1 b2 k1 k2 n1 n2 : Nat} {E1 E2 : TypeId} {v1 v2 : Value} {c1 c2 : List Value} (h1 : w.ownsRow b1 E1 k1 v1 n1 c1) (h2 : w.ownsRow b2 E2 k2 v2 n2 c2) (hE : E1 ≠ E2) : v1.ownBlock = none ∨ v1.ownBlock ≠ v2.ownBlock := by
  rcases h1.2 with ⟨rfl, _⟩ | ⟨g, cap, cur, rfl, _, hg, _⟩
  · exact .inl rfl
  rcases h2.2 with ⟨rfl, _⟩ | ⟨g', cap', cur', rfl, _, hg', _⟩
  · exact .inr (fun e => by cases e)
  · refine .inr (fun e => ?_)
    obtain rfl : g = g' := Option.some.inj e
    rw [hg] at hg'
    simp only [Option.some.injEq, Obj.cells.injEq] at hg'
    exact hE hg'.2.1
theorem en_old {w : World} {g : Nat} {E : TypeId} {X : EntV} (h : RowAt w g E (enL X)) : w.rangeAt g 2 (X.upd.old.map B) :=
  h.range (l := [.int .u8 (X.upd.kind : Int), .string (strB X.upd.name)]) (m := X.upd.old.map B) (r := X.upd.new.map B ++ [.string (strB X.note)]) (by simp [enL, upL])
theorem en_new {w : World} {g : Nat} {E : TypeId} {X : EntV} (hX : UpOk X.upd) (h : RowAt w g E (enL X)) : w.rangeAt g 34 (X.upd.new.map B) := by
  have := h.range (l := [.int .u8 (X.upd.kind : Int), .string (strB X.upd.name)] ++ X.upd.old.map B) (m := X.upd.new.map B) (r := [.string (strB X.note)]) (by simp [enL, upL])
  have e : ([.int .u8 (X.upd.kind : Int), .string (strB X.upd.name)] ++ X.upd.old.map B : List Value).length = 34 := by simp [hX.2.1]
  rwa [e] at this
theorem parts_two_rn {w : World} {g : Nat} {a b : Option Addr} {n c m d : Nat} {l k : List RName} {ty : TypeId} (h : w.heap[g]? = some (.cells #[.slice a n c, .slice b m d] ty (0, 0))) (ha : AtG rnK w a n c l) (hb : AtG rnK w b m d k) : Parts_rn w g [l, k] := by
  intro j hj
  have hc : j = 0 ∨ j = 1 := by simp at hj; omega
  rcases hc with rfl | rfl
  · exact ⟨a, n, c, by rw [cell_of_row w g 0 _ ty (0, 0) h]; rfl, ha⟩
  · exact ⟨b, m, d, by rw [cell_of_row w g 1 _ ty (0, 0) h]; rfl, hb⟩
theorem take_gdR {α : Type} [Inhabited α] {L : List α} {i : Nat} (h : i < L.length) : L.take (i + 1) = L.take i ++ [gd L i] := by
  rw [List.take_succ_eq_append_getElem h]
  congr 2
  unfold gd; simp [h]
theorem logIds_take {L : List EntV} {i : Nat} (h : i < L.length) : logIds (L.take (i + 1)) = logIds (L.take i) ++ [(gd L i).upd.old, (gd L i).upd.new] := by rw [take_gdR h, logIds_snoc]

set_option maxRecDepth 100000 in
set_option maxHeartbeats 4000000 in
theorem roots_any (S : RfS) (r : RefsV) (w : World) (h : RfIn w S r) (hn : RfFew S) :
    Calls Tryd.prog 10 #[.agg (rfC S r.head r.at_)] w fun e w' => ∃ a n c, e = .returned (.slice a n c) ∧ IdsAt w' a n c (rootsF r) ∧ n ≤ 400001 ∧ Below w.heap.size w w' := by
  obtain ⟨M, hM⟩ : ∃ M, M = r.br ++ r.tg := ⟨_, rfl⟩
  obtain ⟨nM, hnM⟩ : ∃ nM, nM = M.length := ⟨_, rfl⟩
  have HAT := Lib.hid h.at_
  have HIN := Lib.hid h
  have hnMI : (nM : Int) ≤ 200000 := by have h1 := hn.1; have h2 := hn.2.1; have h3 := h.br.1; have h4 := h.tg.1; rw [hnM, hM, List.length_append]; omega
  have hlI : (S.nl : Int) ≤ 100000 := by have := hn.2.2; omega
  have HNM := Lib.hid hnM
  have HME := Lib.hid hM
  have HLL := Lib.hid h.log.1
  have HTL := Lib.hid (show [r.br, r.tg].flatten.length ≤ 1000000 by have h1 := hn.1; have h2 := hn.2.1; have h3 := h.br.1; have h4 := h.tg.1; simp; omega)
  have HFL := Lib.hid (show [r.br, r.tg].flatten = M by rw [hM]; simp)
  have HR0 := Lib.hid (show RowAt (w.alloc (.cells (rfC S r.head r.at_) REf)) w.heap.size REf (rfL S r.head r.at_) from heap_alloc_new w _)
  have HB0 := Lib.hid ((Below.refl w.heap.size w).alloc (Nat.le_refl _) (.cells (rfC S r.head r.at_) REf))
  obtain ⟨W0, hW0⟩ : ∃ W0, w.alloc (.cells (rfC S r.head r.at_) REf) = W0 := ⟨_, rfl⟩
  have HW0 := Lib.hid hW0
  rw [hW0] at HR0 HB0
  have HO1 := Lib.hid (own_one W0 HAT.out)
  have HB1 := Lib.hid ((Below.refl W0.heap.size W0).alloc (Nat.le_refl _) (.cells (idCells r.at_) 24))
  have HOKM := Lib.hid (show ∀ x ∈ M, rnK.ok x from fun x hx => by
    rw [hM] at hx
    rcases List.mem_append.1 hx with hx | hx
    · exact h.br.2.2.2.1 x hx
    · exact h.tg.2.2.2.1 x hx)
  clear h hn hM hnM hW0
  go_enter Tryd.func10, Tryd.ntmps10
  go_wp2_with (first
    | ((with_reducible show wpList _ _ _ (⟨some 9, _, _, _, _, _⟩ :: _) _ _); rw [HW0.out]; go_must (refine wl_ex rfl (exec_loadId _ rfl w.heap.size 3 r.at_ HAT.out rfl (rf_at HR0.out)) ?_))
    | ((with_reducible show wpList _ _ _ (⟨some 10, _, _, _, _, _⟩ :: _) _ _); go_must (refine wl_one rfl _ rfl r.at_ HAT.out rfl ?_); have HR1 := Lib.hid (HR0.out.below HB1.out); have HS0 := Lib.hid HB0.out.size; generalize W0.alloc (.cells (idCells r.at_) 24) = W1 at HO1 HB1 HR1 ⊢; have HS1 := Lib.hid HB1.out.size; have HSW := Lib.hid (Nat.le_trans HS0.out HS1.out); have c0 := rf_br HR1.out; have c1 := rf_tg HR1.out; generalize hB1 : W0.heap.size = B1 at HO1 HB1 HS1 HS0 ⊢; have HBE := Lib.hid hB1; clear hB1)
    | (go_at_call 22; go_must (refine (concat_rn _ 2 [r.br, r.tg] _ rfl (by decide) (parts_two_rn (heap_alloc_new W1 _) (HIN.out.br.below ((HB0.out.trans (HB1.out.mono HS0.out)).alloc HSW.out _)) (HIN.out.tg.below ((HB0.out.trans (HB1.out.mono HS0.out)).alloc HSW.out _))) HTL.out).mono ?_); rintro e W3 ⟨ac, nc, cc, rfl, hoc, hbc⟩; obtain rfl : nc = nM := by { have h1 := hoc.len; rw [HFL.out] at h1; rw [← h1, HNM.out] }; have HC3 := Lib.hid (show OwnG rnK NEf W3 B1 (.slice ac nc cc) M by { rw [← HFL.out]; exact (hoc.mono (by have := HS1.out; simp; omega)) }); have hb3 := (Below.refl W1.heap.size W1).alloc (Nat.le_refl _) (.cells #[.slice S.ab S.nb S.cb, .slice S.ag S.ng S.cg] 32); have hb4 := hb3.trans (hbc.mono hb3.size); have HB3 := Lib.hid hb4; have HR3 := Lib.hid (HR1.out.below hb4); have HO3 := Lib.hid (HO1.out.below hb4); clear hoc hbc hb3 hb4))
  have HBW : Hid (Below B1 W0 W3) := Lib.hid (HB1.out.trans (HB3.out.mono HS1.out))
  have HRW : Hid (∀ W, Below B1 W0 W → RowAt W w.heap.size REf (rfL S r.head r.at_)) := Lib.hid (fun W hW => HR0.out.below (HBE.out ▸ hW))
  have HSB : Hid (∀ W, Below B1 W0 W → B1 ≤ W.heap.size) := Lib.hid (fun W hW => by have := hW.size; rw [HBE.out] at this; exact this)
  have HBC : Hid (∀ W, Below B1 W0 W → Below w.heap.size w W) := Lib.hid (fun W hW => HB0.out.trans (hW.mono HS0.out))
  clear c0 c1 HB1 HO1 HR1 HR3
  go_loopg [3, 18] nc (fun g v3 v18 W => ∃ (i m : Nat) (a1 : Option Addr) (c1 : Nat), v18 = .int .i64 i ∧ v3 = .slice a1 m c1 ∧ g + i = nc ∧ m = i + 1 ∧ Hid (Below B1 W0 W) ∧ Hid (OwnG rnK NEf W B1 (.slice ac nc cc) M) ∧ Hid (OwnI W B1 (.slice a1 m c1) (r.at_ :: (M.take i).map (·.2))))
  case atStart => exact ⟨0, 1, _, _, rfl, rfl, rfl, rfl, HBW, HC3, HO3⟩
  case round =>
    obtain ⟨i, m, a1, c1, rfl, rfl, hg, hm, HB, HD, HO⟩ := hrel
    have HG := Lib.hid hg
    have HM := Lib.hid hm
    have hi0 : (0 : Int) ≤ (i : Int) := by omega
    have hiI : (i : Int) ≤ (nc : Int) := by omega
    by_cases hi : (i : Int) < (nc : Int)
    · have hin : i < nc := by omega
      have HI := Lib.hid hin
      obtain ⟨b, o, rfl⟩ := HD.out.atG.some_ (by omega)
      obtain ⟨X, hX⟩ : ∃ X, X = gd M i := ⟨_, rfl⟩
      have HXI : Hid (X.2.length = 32) := Lib.hid (hX ▸ HD.out.atG.ok hin)
      have HXR : Hid (wr.rangeAt b (o + i * 33) (rnL X)) := Lib.hid (hX ▸ HD.out.atG.at_ i hin)
      have HTK : Hid (r.at_ :: (M.take (i + 1)).map (·.2) = (r.at_ :: (M.take i).map (·.2)) ++ [X.2]) := Lib.hid (by rw [take_gdR (by rw [HD.out.atG.1]; exact hin), List.map_append, ← hX]; rfl)
      have HTL : Hid ((r.at_ :: (M.take i).map (·.2)).length = i + 1) := Lib.hid (by rw [List.length_cons, List.length_map, List.length_take, HD.out.atG.1]; omega)
      clear hg hX hm
      go_wp2_with (first
        | ((with_reducible show wpList _ _ _ (⟨some 21, _, _, _, _, _⟩ :: _) _ _); go_must (refine wl_ex rfl (exec_loadRn _ rfl _ _ X HXI.out rfl HXR.out) ?_))
        | ((with_reducible show wpList _ _ _ (⟨_, Op.store _ (.tmp 5) _, _, _, _, _⟩ :: _) _ _); go_must (refine store_new (vs := rnL X) (size33 HXI.out) (rnL_one X) (by rw [rnL_len HXI.out]; rfl) rfl _ _ rfl rfl rfl ?_); intro W4 hk4 hb4 hs4; have HB4 := Lib.hid (HB.out.trans (hb4.mono (HSB.out _ HB.out))); have HD4 := Lib.hid (HD.out.below hb4); have HO4 := Lib.hid (HO.out.below hb4); have HK4 := Lib.hid hk4; generalize wr.heap.size = g4 at hk4 hs4 HK4 ⊢; clear hk4 hb4 hs4)
        | ((with_reducible show wpList _ _ _ (⟨some 24, _, _, _, _, _⟩ :: _) _ _); go_must (refine wl_ex rfl (exec_loadId _ rfl g4 1 X.2 HXI.out rfl (row_id HK4.out)) ?_))
        | ((with_reducible show wpList _ _ _ (⟨some 25, _, _, _, _, _⟩ :: _) _ _); go_must (refine wl_one rfl _ rfl X.2 HXI.out rfl ?_); have hb5 := (Below.refl W4.heap.size W4).alloc (Nat.le_refl _) (.cells (idCells X.2) 24); have HB5 := Lib.hid (HB4.out.trans (hb5.mono (HSB.out _ HB4.out))); have HD5 := Lib.hid (HD4.out.below hb5); have HO5 := Lib.hid (HO4.out.below hb5); have HX5 := Lib.hid (ids_new W4 HXI.out); clear hb5; generalize W4.alloc (.cells (idCells X.2) 24) = W5 at HB5 HD5 HO5 HX5 ⊢; generalize W4.heap.size = g5 at HX5 ⊢)
        | (at_builtin; go_must (refine app_slice rfl (.tmp 22) (.tmp 25) rfl B1 _ _ rfl HO5.out _ 1 1 [X.2] rfl HX5.out (by rw [HTL.out]; omega) (HSB.out _ HB5.out) (m + 1) (by rw [HTL.out, HM.out]) ?_); intro a6 c6 W6 ho6 hg6; have HB6 := Lib.hid (HB5.out.grown hg6 (HSB.out _ HB5.out) (fun k hk => (HO5.out.lt k hk).1)); have HD6 := Lib.hid (HD5.out.kept hg6 (own_ne HD5.out.1 HO5.out.1 (by decide))); have HO6 := Lib.hid ho6; clear ho6 hg6))
      have HO6' : Hid (OwnI W6 B1 (.slice a6 (m + 1) c6) (r.at_ :: (M.take (i + 1)).map (·.2))) := Lib.hid (by rw [HTK.out]; exact HO6.out)
      go_roundg (nc - (i + 1))
      case measure => have := HG.out; have := HI.out; omega
      case rel => exact ⟨i + 1, m + 1, a6, c6, by go_num, rfl, by have := HI.out; omega, by rw [HM.out], HB6, HD6, HO6'⟩
    · have HTA : Hid (OwnI wr B1 (.slice a1 m c1) (r.at_ :: M.map (·.2))) := Lib.hid (by have h := HO.out; rwa [List.take_of_length_le (by rw [HD.out.atG.1]; omega)] at h)
      have HMN : Hid (m = 1 + nc) := Lib.hid (by omega)
      have HBq := HB
      have c35 := rf_log HAT.out (HRW.out _ HB.out)
      have HLA : Hid (∀ W, Below B1 W0 W → AtG enK W S.al S.nl S.cl r.log) := Lib.hid (fun W hW => HIN.out.log.below (HBC.out _ hW))
      clear hg hm HO HD HB
      go_wp2
      go_loopg [3, 31] S.nl (fun g v3 v31 W => ∃ (i m : Nat) (a1 : Option Addr) (c1 : Nat), v31 = .int .i64 i ∧ v3 = .slice a1 m c1 ∧ g + i = S.nl ∧ m = 1 + nc + 2 * i ∧ Hid (Below B1 W0 W) ∧ Hid (OwnI W B1 (.slice a1 m c1) (r.at_ :: M.map (·.2) ++ logIds (r.log.take i))))
      case atStart => exact ⟨0, m, _, _, rfl, rfl, rfl, HMN.out, HBq, Lib.hid (by rw [List.take_zero]; show OwnI _ _ _ (_ ++ []); rw [List.append_nil]; exact HTA.out)⟩
      case round =>
        clear c35 HTA HBq HMN
        obtain ⟨i, m, a1, c1, rfl, rfl, hg, hm, HB, HO⟩ := hrel
        have HG := Lib.hid hg
        have HM := Lib.hid hm
        have hi0 : (0 : Int) ≤ (i : Int) := by omega
        have hiI : (i : Int) ≤ (S.nl : Int) := by omega
        have HNC := Lib.hid hnMI
        by_cases hi : (i : Int) < (S.nl : Int)
        · have hin : i < S.nl := by omega
          have HI := Lib.hid hin
          have HLI := Lib.hid hlI
          have HLW := Lib.hid (HLA.out _ HB.out)
          obtain ⟨b, o, hab⟩ := HLW.out.some_ (by omega)
          obtain ⟨X, hX⟩ : ∃ X, X = gd r.log i := ⟨_, rfl⟩
          have HXO : Hid (UpOk X.upd) := Lib.hid (hX ▸ HLW.out.ok hin)
          have HXR : Hid (wr.rangeAt b (o + i * 67) (enL X)) := Lib.hid (by have h := HLW.out; rw [hab] at h; exact hX ▸ h.at_ i hin)
          have HTK : Hid (r.at_ :: M.map (·.2) ++ logIds (r.log.take (i + 1)) = (r.at_ :: M.map (·.2) ++ logIds (r.log.take i)) ++ [X.upd.old, X.upd.new]) := Lib.hid (by rw [logIds_take (by rw [HLL.out]; exact hin), ← hX, ← List.append_assoc])
          have HTL2 : Hid ((r.at_ :: M.map (·.2) ++ logIds (r.log.take i)).length = 1 + nc + 2 * i) := Lib.hid (by rw [List.length_append, List.length_cons, List.length_map, logIds_len, List.length_take, HLL.out, ← HNM.out]; omega)
          rw [hab]
          have HAB := Lib.hid hab
          clear hg hX hm hab HLW
          go_wp2_with (first
            | ((with_reducible show wpList _ _ _ (⟨some 34, _, _, _, _, _⟩ :: _) _ _); go_must (refine wl_ex rfl (exec_loadEn _ rfl _ _ X HXO.out rfl HXR.out) ?_))
            | ((with_reducible show wpList _ _ _ (⟨_, Op.store _ (.tmp 7) _, _, _, _, _⟩ :: _) _ _); go_must (refine store_new (vs := enL X) (size67 HXO.out) (enL_one X) (by rw [enL_len HXO.out]; rfl) rfl _ _ rfl rfl rfl ?_); intro W4 hk4 hb4 hs4; have HB4 := Lib.hid (HB.out.trans (hb4.mono (HSB.out _ HB.out))); have HO4 := Lib.hid (HO.out.below hb4); have HK4 := Lib.hid hk4; generalize wr.heap.size = g4 at hk4 hs4 HK4 ⊢; clear hk4 hb4 hs4)
            | ((with_reducible show wpList _ _ _ (⟨some 38, _, _, _, _, _⟩ :: _) _ _); go_must (refine wl_ex rfl (exec_loadId _ rfl g4 2 X.upd.old HXO.out.2.1 rfl (en_old HK4.out)) ?_))
            | ((with_reducible show wpList _ _ _ (⟨some 41, _, _, _, _, _⟩ :: _) _ _); go_must (refine wl_ex rfl (exec_loadId _ rfl g4 34 X.upd.new HXO.out.2.2 rfl (en_new HXO.out HK4.out)) ?_))
            | ((with_reducible show wpList _ _ _ (⟨some 42, _, _, _, _, _⟩ :: _) _ _); go_must (refine wl_two rfl _ _ rfl X.upd.old X.upd.new HXO.out.2.1 HXO.out.2.2 rfl rfl ?_); have hb5 := (Below.refl W4.heap.size W4).alloc (Nat.le_refl _) (.cells (two32 X.upd.old X.upd.new) 24); have HB5 := Lib.hid (HB4.out.trans (hb5.mono (HSB.out _ HB4.out))); have HO5 := Lib.hid (HO4.out.below hb5); have HX5 := Lib.hid (ids_two W4 HXO.out.2.1 HXO.out.2.2); clear hb5; generalize W4.alloc (.cells (two32 X.upd.old X.upd.new) 24) = W5 at HB5 HO5 HX5 ⊢; generalize W4.heap.size = g5 at HX5 ⊢)
            | (at_builtin; go_must (refine app_slice rfl (.tmp 35) (.tmp 42) rfl B1 _ _ rfl HO5.out _ 2 2 [X.upd.old, X.upd.new] rfl HX5.out (by rw [HTL2.out]; have := HNC.out; have := HLI.out; have := HI.out; omega) (HSB.out _ HB5.out) (m + 2) (by rw [HTL2.out, HM.out]) ?_); intro a6 c6 W6 ho6 hg6; have HB6 := Lib.hid (HB5.out.grown hg6 (HSB.out _ HB5.out) (fun k hk => (HO5.out.lt k hk).1)); have HO6 := Lib.hid ho6; clear ho6 hg6))
          have HO6' : Hid (OwnI W6 B1 (.slice a6 (m + 2) c6) (r.at_ :: M.map (·.2) ++ logIds (r.log.take (i + 1)))) := Lib.hid (by rw [HTK.out]; exact HO6.out)
          rw [← HAB.out]
          go_roundg (S.nl - (i + 1))
          case measure => have := HG.out; have := HI.out; omega
          case rel => exact ⟨i + 1, m + 2, a6, c6, by go_num, rfl, by have := HI.out; omega, by have := HM.out; omega, HB6, HO6'⟩
        · have HTA : Hid (OwnI wr B1 (.slice a1 m c1) (idsF r)) := Lib.hid (by have h := HO.out; rw [List.take_of_length_le (by rw [HLL.out]; omega), HME.out] at h; exact h)
          have HNQ : Hid ((rootsF r).length ≤ 400001) := Lib.hid (by
            have h1 := setF_length_le (inF [idZero] false (idsF r))
            have h2 : (inF [idZero] false (idsF r)).length ≤ (idsF r).length := List.length_filter_le ..
            have h3 := HTA.out.isIds.1
            unfold rootsF
            omega)
          have hmm : m ≤ 1000000 := by omega
          have HMM := Lib.hid hmm
          obtain ⟨QN, hQN⟩ : ∃ QN, QN = (rootsF r).length := ⟨_, rfl⟩
          have HQN := Lib.hid hQN
          have HBq := HB
          clear hg hm HO HB hmm hQN
          go_wp2_with (first
            | ((with_reducible show wpList _ _ _ (⟨some 46, _, _, _, _, _⟩ :: _) _ _); go_must (refine wl_ex rfl (exec_zid rfl) ?_))
            | ((with_reducible show wpList _ _ _ (⟨some 47, _, _, _, _, _⟩ :: _) _ _); go_must (refine wl_one rfl _ rfl idZero len_idZero rfl ?_); have hb5 := (Below.refl wr.heap.size wr).alloc (Nat.le_refl _) (.cells (idCells idZero) 24); have HB5 := Lib.hid (HBq.out.trans (hb5.mono (HSB.out _ HBq.out))); have HO5 := Lib.hid (HTA.out.below hb5); have HX5 := Lib.hid (ids_new wr len_idZero); clear hb5; generalize wr.alloc (.cells (idCells idZero) 24) = W5 at HB5 HO5 HX5 ⊢; generalize wr.heap.size = g5 at HX5 ⊢)
            | (go_at_call 14; go_must (refine (minus_any a1 m c1 (idsF r) _ 1 1 [idZero] (rootsF r) QN W5 HO5.out.isIds HX5.out HMM.out (by omega) rfl HQN.out).mono ?_); rintro e W7 ⟨a7, c7, rfl, h7, hb7⟩; have H7 := Lib.hid h7; have HB7 := Lib.hid (HB5.out.trans (hb7.mono (HSB.out _ HB5.out))); clear h7 hb7))
          go_ret
          exact ⟨a7, QN, c7, rfl, H7.out, by rw [HQN.out]; exact HNQ.out, HBC.out _ HB7.out⟩
#print axioms roots_any
end Go.Proofs.YtkhcoefcifaaeaaDoor
