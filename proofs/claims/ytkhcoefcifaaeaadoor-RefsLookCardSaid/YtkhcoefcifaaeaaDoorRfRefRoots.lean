/-
  The walk of the document's Roots.
-/
import Derived.Test.YtkhcoefcifaaeaaDoorRfRoots
import Derived.Test.YtkhcoefcifaaeaaDoorGrp14
namespace Go.Proofs.YtkhcoefcifaaeaaDoor
open Go.RowKit

def idK : Kind (List UInt8) := ⟨fun l => l.map B, 32, fun l => l.length = 32, by decide, fun l h => by rw [List.length_map]; exact h, fun l _ => B_one l⟩
theorem IdsAt.atG {w : World} {a : Option Addr} {n c : Nat} {L : List (List UInt8)} (h : IdsAt w a n c L) : AtG idK w a n c L := by
  obtain ⟨h1, h2, h3, h4, h5⟩ := id h
  refine ⟨h1, h2, h3, h4, ?_⟩
  rcases h5 with h5 | ⟨b, off, rfl, _⟩
  · exact .inl h5
  · exact .inr ⟨b, off, rfl, fun j hj => h.at_ j hj⟩
theorem wp_two {w : World} {o : Oper} {a : Act} {K : Act → World → Prop} {Q : Exit → Act → World → Prop} (x y : Operand) (ho : o.op = .buildSlice 39 2 #[(0, x), (1, y)])
    (l m : List UInt8) (hl : l.length = 32) (hm : m.length = 32) (hx : a.eval x = .agg (idCells l)) (hy : a.eval y = .agg (idCells m))
    (h : K (a.put o.dst (.slice (some ⟨w.heap.size, 0, none⟩) 2 2)) (w.alloc (.cells (two32 l m) 24))) : o.wp Tryd.prog a w K Q := by
  have hr : (execOp a.eval o).run Tryd.prog w = .ok (.value (.slice (some ⟨w.heap.size, 0, none⟩) 2 2)) (w.alloc (.cells (two32 l m) 24)) := by
    unfold execOp
    simp only [ho, List.map_toArray, List.map_cons, List.map_nil, hx, hy, Sem.run_bind, run_two w hl hm, Result.andThen_ok, Sem.run_pure]
  unfold Oper.wp
  rw [hr]
  exact h
theorem wp_appI {w : World} {o : Oper} {a : Act} {K : Act → World → Prop} {Q : Exit → Act → World → Prop} (s x : Operand)
    (ho : o.op = .call { callee := .builtin .append, args := #[s, x], argTypes := #[39, 39] })
    (base : Nat) (v : Value) (l : List (List UInt8)) (hs : a.eval s = v) (hown : OwnI w base v l)
    (sa : Option Addr) (m c : Nat) (src : List (List UInt8)) (hx : a.eval x = .slice sa m c) (hsrc : IdsAt w sa m c src)
    (h48 : (l.length + m) * 33 ≤ 140737488355328) (hbase : base ≤ w.heap.size) (r : Nat) (hr : r = l.length + m)
    (h : ∀ a' c' w', OwnI w' base (.slice a' r c') (l ++ src) → w.grownBy w' v.ownBlock → K (a.put o.dst (.slice a' r c')) w') : o.wp Tryd.prog a w K Q :=
  wp_appG idK Tryd.underlying39 Tryd.infoI24 (idCells_size idZero_length) s x ho base v l hs hown sa m c src hx hsrc.atG h48 hbase r hr h
theorem range_old {w : World} {b o : Nat} {X : EntV} (h : w.rangeAt b o (enL X)) : w.rangeAt b (o + 2) (X.upd.old.map B) := fun j v hv => by
  rw [Nat.add_assoc]
  refine h (2 + j) v ?_
  unfold enL upL
  rw [List.append_assoc, List.getElem?_append_right (by simp), List.append_assoc, List.getElem?_append_left (by have := (List.getElem?_eq_some_iff.1 hv).1; simp at this ⊢; omega)]
  simpa using hv
theorem range_new {w : World} {b o : Nat} {X : EntV} (hX : UpOk X.upd) (h : w.rangeAt b o (enL X)) : w.rangeAt b (o + 34) (X.upd.new.map B) := fun j v hv => by
  rw [Nat.add_assoc]
  refine h (34 + j) v ?_
  unfold enL upL
  rw [List.append_assoc, List.getElem?_append_right (by simp; omega), List.append_assoc, List.getElem?_append_right (by simp [hX.2.1]; omega), List.getElem?_append_left (by have := (List.getElem?_eq_some_iff.1 hv).1; simp [hX.2.1] at this ⊢; omega)]
  have e : 34 + j - [(Value.int .u8 (X.upd.kind : Int)), .string (strB X.upd.name)].length - (X.upd.old.map B).length = j := by simp [hX.2.1]; omega
  rw [e]; exact hv
theorem map_take_gd {L : List RName} {i : Nat} (h : i < L.length) : (L.take (i + 1)).map (·.2) = (L.take i).map (·.2) ++ [(gd L i).2] := by rw [take_gdR h, List.map_append]; rfl

set_option maxRecDepth 100000 in
set_option maxHeartbeats 4000000 in
theorem refRoots_any (S : RfS) (r : RefsV) (w : World) (h : RfIn w S r) (hn : RfFew S) :
    Calls Tryd.prog 11 #[.agg (rfC S r.head r.at_)] w fun e w' => ∃ a n c, e = .returned (.slice a n c) ∧ IdsAt w' a n c (rootsF r) ∧ Below w.heap.size w w' := by
  have HAT := Lib.hid h.at_
  have HIN := Lib.hid h
  have hbI : (S.nb : Int) ≤ 100000 := by have := hn.1; omega
  have hgI : (S.ng : Int) ≤ 100000 := by have := hn.2.1; omega
  have hlI : (S.nl : Int) ≤ 100000 := by have := hn.2.2; omega
  have HBL := Lib.hid h.br.1
  have HGL := Lib.hid h.tg.1
  have HLL := Lib.hid h.log.1
  have HR0 := Lib.hid (show RowAt (w.alloc (.cells (rfC S r.head r.at_) RREf)) w.heap.size RREf (rfL S r.head r.at_) from heap_alloc_new w _)
  have HB0 := Lib.hid ((Below.refl w.heap.size w).alloc (Nat.le_refl _) (.cells (rfC S r.head r.at_) RREf))
  obtain ⟨W0, hW0⟩ : ∃ W0, w.alloc (.cells (rfC S r.head r.at_) RREf) = W0 := ⟨_, rfl⟩
  have HW0 := Lib.hid hW0
  rw [hW0] at HR0 HB0
  have HO1 := Lib.hid (own_one W0 HAT.out)
  have HB1 := Lib.hid ((Below.refl W0.heap.size W0).alloc (Nat.le_refl _) (.cells (idCells r.at_) 24))
  clear h hn hW0
  go_enter Tryd.func11, Tryd.ntmps11
  go_wp2_with (first
    | ((with_reducible show wpList _ _ _ (⟨some 8, _, _, _, _, _⟩ :: _) _ _); rw [HW0.out]; go_must (refine wl_ex rfl (exec_loadId _ rfl w.heap.size 3 r.at_ HAT.out rfl (rf_at HR0.out)) ?_))
    | ((with_reducible show wpList _ _ _ (⟨some 9, _, _, _, _, _⟩ :: _) _ _); go_must (refine wl_one rfl _ rfl r.at_ HAT.out rfl ?_); have HS0 := Lib.hid HB0.out.size; generalize W0.alloc (.cells (idCells r.at_) 24) = W1 at HO1 HB1 ⊢; have HS1 := Lib.hid HB1.out.size; generalize hB1 : W0.heap.size = B1 at HO1 HB1 HS1 HS0 ⊢; have HBE := Lib.hid hB1; clear hB1))
  have HRW : Hid (∀ W, Below B1 W0 W → RowAt W w.heap.size RREf (rfL S r.head r.at_)) := Lib.hid (fun W hW => HR0.out.below (HBE.out ▸ hW))
  have HSB : Hid (∀ W, Below B1 W0 W → B1 ≤ W.heap.size) := Lib.hid (fun W hW => by have := hW.size; rw [HBE.out] at this; exact this)
  have HBC : Hid (∀ W, Below B1 W0 W → Below w.heap.size w W) := Lib.hid (fun W hW => HB0.out.trans (hW.mono HS0.out))
  go_loopg [3, 4] S.nb (fun g v3 v4 W => ∃ (i m : Nat) (a1 : Option Addr) (c1 : Nat), v4 = .int .i64 i ∧ v3 = .slice a1 m c1 ∧ g + i = S.nb ∧ m = i + 1 ∧ Hid (Below B1 W0 W) ∧ Hid (OwnI W B1 (.slice a1 m c1) (r.at_ :: (r.br.take i).map (·.2))))
  case atStart => exact ⟨0, 1, _, _, rfl, rfl, rfl, rfl, HB1, HO1⟩
  case round =>
    clear HO1 HB1
    obtain ⟨i, m, a1, c1, rfl, rfl, hg, hm, HB, HO⟩ := hrel
    have HG := Lib.hid hg
    have HM := Lib.hid hm
    have hi0 : (0 : Int) ≤ (i : Int) := by omega
    have hiI : (i : Int) ≤ (S.nb : Int) := by omega
    have c0 := rf_br (HRW.out _ HB.out)
    by_cases hi : (i : Int) < (S.nb : Int)
    · have hin : i < S.nb := by omega
      have HI := Lib.hid hin
      have hat := HIN.out.br.below (HBC.out _ HB.out)
      obtain ⟨b, o, hab⟩ := hat.some_ (by omega)
      rw [hab] at hat c0
      obtain ⟨X, hX⟩ : ∃ X, X = gd r.br i := ⟨_, rfl⟩
      have HXI : Hid (X.2.length = 32) := Lib.hid (hX ▸ hat.ok hin)
      have HXR : Hid (wr.rangeAt b (o + i * 33 + 1) (X.2.map B)) := Lib.hid (hX ▸ rn_id hat hin)
      have HTK : Hid (r.at_ :: (r.br.take (i + 1)).map (·.2) = (r.at_ :: (r.br.take i).map (·.2)) ++ [X.2]) := Lib.hid (by rw [map_take_gd (by rw [HBL.out]; exact hin), ← hX]; rfl)
      have HTL : Hid ((r.at_ :: (r.br.take i).map (·.2)).length = i + 1) := Lib.hid (by rw [List.length_cons, List.length_map, List.length_take, HBL.out]; omega)
      clear hg hX hm hat hab
      go_wp2_with (first
        | ((with_reducible show wpList _ _ _ (⟨some 23, _, _, _, _, _⟩ :: _) _ _); go_must (refine wl_ex rfl (exec_loadId _ rfl _ _ X.2 HXI.out rfl HXR.out) ?_))
        | ((with_reducible show wpList _ _ _ (⟨some 24, _, _, _, _, _⟩ :: _) _ _); go_must (refine wl_one rfl _ rfl X.2 HXI.out rfl ?_); have hb5 := (Below.refl wr.heap.size wr).alloc (Nat.le_refl _) (.cells (idCells X.2) 24); have HB5 := Lib.hid (HB.out.trans (hb5.mono (HSB.out _ HB.out))); have HO5 := Lib.hid (HO.out.below hb5); have HX5 := Lib.hid (ids_new wr HXI.out); clear hb5; generalize wr.alloc (.cells (idCells X.2) 24) = W5 at HB5 HO5 HX5 ⊢; generalize wr.heap.size = g5 at HX5 ⊢)
        | (at_builtin; go_must (refine app_slice rfl (.tmp 17) (.tmp 24) rfl B1 _ _ rfl HO5.out _ 1 1 [X.2] rfl HX5.out (by rw [HTL.out]; have := HI.out; omega) (HSB.out _ HB5.out) (m + 1) (by rw [HTL.out, HM.out]) ?_); intro a6 c6 W6 ho6 hg6; have HB6 := Lib.hid (HB5.out.grown hg6 (HSB.out _ HB5.out) (fun k hk => (HO5.out.lt k hk).1)); have HO6 := Lib.hid ho6; clear ho6 hg6))
      have HO6' : Hid (OwnI W6 B1 (.slice a6 (m + 1) c6) (r.at_ :: (r.br.take (i + 1)).map (·.2))) := Lib.hid (by rw [HTK.out]; exact HO6.out)
      go_roundg (S.nb - (i + 1))
      case measure => have := HG.out; have := HI.out; omega
      case rel => exact ⟨i + 1, m + 1, a6, c6, by go_num, rfl, by have := HI.out; omega, by rw [HM.out], HB6, HO6'⟩
    · have HTA : Hid (OwnI wr B1 (.slice a1 m c1) (r.at_ :: r.br.map (·.2))) := Lib.hid (by have h := HO.out; rwa [List.take_of_length_le (by rw [HBL.out]; omega)] at h)
      have HMN : Hid (m = 1 + S.nb) := Lib.hid (by omega)
      have HBq := HB
      clear hg hm HO HB
      go_wp2
      go_loopg [3, 5] S.ng (fun g v3 v5 W => ∃ (i m : Nat) (a1 : Option Addr) (c1 : Nat), v5 = .int .i64 i ∧ v3 = .slice a1 m c1 ∧ g + i = S.ng ∧ m = 1 + S.nb + i ∧ Hid (Below B1 W0 W) ∧ Hid (OwnI W B1 (.slice a1 m c1) (r.at_ :: r.br.map (·.2) ++ (r.tg.take i).map (·.2))))
      case atStart => exact ⟨0, m, _, _, rfl, rfl, rfl, HMN.out, HBq, Lib.hid (by rw [List.take_zero]; show OwnI _ _ _ (_ ++ []); rw [List.append_nil]; exact HTA.out)⟩
      case round =>
        clear c0 HTA HBq HMN
        obtain ⟨i, m, a1, c1, rfl, rfl, hg, hm, HB, HO⟩ := hrel
        have HG := Lib.hid hg
        have HM := Lib.hid hm
        have hi0 : (0 : Int) ≤ (i : Int) := by omega
        have hiI : (i : Int) ≤ (S.ng : Int) := by omega
        have c0 := rf_tg (HRW.out _ HB.out)
        by_cases hi : (i : Int) < (S.ng : Int)
        · have hin : i < S.ng := by omega
          have HI := Lib.hid hin
          have hat := HIN.out.tg.below (HBC.out _ HB.out)
          obtain ⟨b, o, hab⟩ := hat.some_ (by omega)
          rw [hab] at hat c0
          obtain ⟨X, hX⟩ : ∃ X, X = gd r.tg i := ⟨_, rfl⟩
          have HXI : Hid (X.2.length = 32) := Lib.hid (hX ▸ hat.ok hin)
          have HXR : Hid (wr.rangeAt b (o + i * 33 + 1) (X.2.map B)) := Lib.hid (hX ▸ rn_id hat hin)
          have HTK : Hid (r.at_ :: r.br.map (·.2) ++ (r.tg.take (i + 1)).map (·.2) = (r.at_ :: r.br.map (·.2) ++ (r.tg.take i).map (·.2)) ++ [X.2]) := Lib.hid (by rw [map_take_gd (by rw [HGL.out]; exact hin), ← hX, List.append_assoc])
          have HTL : Hid ((r.at_ :: r.br.map (·.2) ++ (r.tg.take i).map (·.2)).length = 1 + S.nb + i) := Lib.hid (by rw [List.length_append, List.length_cons, List.length_map, List.length_map, List.length_take, HGL.out, HBL.out]; omega)
          have HNB := Lib.hid hbI
          have HNG := Lib.hid hgI
          clear hg hX hm hat hab
          go_wp2_with (first
            | ((with_reducible show wpList _ _ _ (⟨some 39, _, _, _, _, _⟩ :: _) _ _); go_must (refine wl_ex rfl (exec_loadId _ rfl _ _ X.2 HXI.out rfl HXR.out) ?_))
            | ((with_reducible show wpList _ _ _ (⟨some 40, _, _, _, _, _⟩ :: _) _ _); go_must (refine wl_one rfl _ rfl X.2 HXI.out rfl ?_); have hb5 := (Below.refl wr.heap.size wr).alloc (Nat.le_refl _) (.cells (idCells X.2) 24); have HB5 := Lib.hid (HB.out.trans (hb5.mono (HSB.out _ HB.out))); have HO5 := Lib.hid (HO.out.below hb5); have HX5 := Lib.hid (ids_new wr HXI.out); clear hb5; generalize wr.alloc (.cells (idCells X.2) 24) = W5 at HB5 HO5 HX5 ⊢; generalize wr.heap.size = g5 at HX5 ⊢)
            | (at_builtin; go_must (refine app_slice rfl (.tmp 33) (.tmp 40) rfl B1 _ _ rfl HO5.out _ 1 1 [X.2] rfl HX5.out (by rw [HTL.out]; have := HI.out; have := HNB.out; have := HNG.out; omega) (HSB.out _ HB5.out) (m + 1) (by rw [HTL.out, HM.out]) ?_); intro a6 c6 W6 ho6 hg6; have HB6 := Lib.hid (HB5.out.grown hg6 (HSB.out _ HB5.out) (fun k hk => (HO5.out.lt k hk).1)); have HO6 := Lib.hid ho6; clear ho6 hg6))
          have HO6' : Hid (OwnI W6 B1 (.slice a6 (m + 1) c6) (r.at_ :: r.br.map (·.2) ++ (r.tg.take (i + 1)).map (·.2))) := Lib.hid (by rw [HTK.out]; exact HO6.out)
          go_roundg (S.ng - (i + 1))
          case measure => have := HG.out; have := HI.out; omega
          case rel => exact ⟨i + 1, m + 1, a6, c6, by go_num, rfl, by have := HI.out; omega, by have := HM.out; omega, HB6, HO6'⟩
        · have HTA : Hid (OwnI wr B1 (.slice a1 m c1) (r.at_ :: r.br.map (·.2) ++ r.tg.map (·.2))) := Lib.hid (by have h := HO.out; rwa [List.take_of_length_le (by rw [HGL.out]; omega)] at h)
          have HMN : Hid (m = 1 + S.nb + S.ng) := Lib.hid (by omega)
          have HBq := HB
          clear hg hm HO HB
          go_wp2
          go_loopg [3, 6] S.nl (fun g v3 v6 W => ∃ (i m : Nat) (a1 : Option Addr) (c1 : Nat), v6 = .int .i64 i ∧ v3 = .slice a1 m c1 ∧ g + i = S.nl ∧ m = 1 + S.nb + S.ng + 2 * i ∧ Hid (Below B1 W0 W) ∧ Hid (OwnI W B1 (.slice a1 m c1) (r.at_ :: r.br.map (·.2) ++ r.tg.map (·.2) ++ logIds (r.log.take i))))
          case atStart => exact ⟨0, m, _, _, rfl, rfl, rfl, HMN.out, HBq, Lib.hid (by rw [List.take_zero]; show OwnI _ _ _ (_ ++ []); rw [List.append_nil]; exact HTA.out)⟩
          case round =>
            clear c0 HTA HBq HMN
            obtain ⟨i, m, a1, c1, rfl, rfl, hg, hm, HB, HO⟩ := hrel
            have HG := Lib.hid hg
            have HM := Lib.hid hm
            have hi0 : (0 : Int) ≤ (i : Int) := by omega
            have hiI : (i : Int) ≤ (S.nl : Int) := by omega
            have c0 := rf_log HAT.out (HRW.out _ HB.out)
            by_cases hi : (i : Int) < (S.nl : Int)
            · have hin : i < S.nl := by omega
              have HI := Lib.hid hin
              have HLI := Lib.hid hlI
              have HNC := Lib.hid (show S.nb ≤ 100000 ∧ S.ng ≤ 100000 ∧ S.nl ≤ 100000 from ⟨by omega, by omega, by omega⟩)
              have hat := HIN.out.log.below (HBC.out _ HB.out)
              obtain ⟨b, o, hab⟩ := hat.some_ (by omega)
              have HAB := Lib.hid hab
              obtain ⟨X, hX⟩ : ∃ X, X = gd r.log i := ⟨_, rfl⟩
              have HXO : Hid (UpOk X.upd) := Lib.hid (hX ▸ hat.ok hin)
              have HEA : Hid (∀ W, Below B1 W0 W → W.rangeAt b (o + i * 67) (enL X)) := Lib.hid (fun W hW => by have h := HIN.out.log.below (HBC.out _ hW); rw [hab] at h; exact hX ▸ h.at_ i hin)
              have HEO : Hid (∀ W, Below B1 W0 W → W.rangeAt b (o + i * 67 + 2) (X.upd.old.map B)) := Lib.hid (fun W hW => range_old (HEA.out W hW))
              have HEN : Hid (∀ W, Below B1 W0 W → W.rangeAt b (o + i * 67 + 34) (X.upd.new.map B)) := Lib.hid (fun W hW => range_new HXO.out (HEA.out W hW))
              have HTK : Hid (r.at_ :: r.br.map (·.2) ++ r.tg.map (·.2) ++ logIds (r.log.take (i + 1)) = (r.at_ :: r.br.map (·.2) ++ r.tg.map (·.2) ++ logIds (r.log.take i)) ++ [X.upd.old, X.upd.new]) := Lib.hid (by rw [logIds_take (by rw [HLL.out]; exact hin), ← hX, ← List.append_assoc])
              have HTL2 : Hid ((r.at_ :: r.br.map (·.2) ++ r.tg.map (·.2) ++ logIds (r.log.take i)).length = 1 + S.nb + S.ng + 2 * i) := Lib.hid (by rw [List.length_append, List.length_append, List.length_cons, List.length_map, List.length_map, logIds_len, List.length_take, HLL.out, HBL.out, HGL.out]; omega)
              rw [hab] at c0
              clear hg hX hm hab hat
              go_wp2
              clear c0
              have HBd : Hid (Below B1 W0 wr.drew) := Lib.hid HB.out.drew
              have HOd : Hid (OwnI wr.drew B1 (.slice a1 m c1) (r.at_ :: r.br.map (·.2) ++ r.tg.map (·.2) ++ logIds (r.log.take i))) := Lib.hid (HO.out.below (Below.refl _ _).drew)
              refine wp_region_held_drew (S := fun W => Below B1 W0 W) (by kernel_rfl) HBd.out (fun hHeld => ?_)
              refine wpAnyH_take (i := 0) (oi := ⟨some 49, .move (.tmp 3), _, _, _, _⟩) (v := (.slice a1 m c1)) rfl (by kernel_rfl) (by kernel_rfl) (by kernel_rfl) (fun _ _ _ h => h) (Or.inl ⟨by rfl, fun W hW => by go_simp⟩) (by assumption) ?_
              simp only [Act.put, List.setIfInBounds_toArray, List.set_cons_zero, List.set_cons_succ]
              refine wpAnyH_take (i := 1) (oi := ⟨some 50, .fieldAddr 27 (.tmp 1) 4, _, _, _, _⟩) (v := (.pointer (some ⟨w.heap.size, 35, none⟩))) rfl (by kernel_rfl) (by kernel_rfl) (by kernel_rfl) (fun _ _ _ h => h) (Or.inl ⟨by rfl, fun W hW => by go_simp⟩) (by assumption) ?_
              simp only [Act.put, List.setIfInBounds_toArray, List.set_cons_zero, List.set_cons_succ]
              refine wpAnyH_take (i := 2) (oi := ⟨some 51, .load 25 (.tmp 50), _, _, _, _⟩) (v := (.slice (some ⟨b, o, none⟩) S.nl S.cl)) rfl (by kernel_rfl) (by kernel_rfl) (by kernel_rfl) (fun _ _ _ h => h) (Or.inl ⟨by rfl, fun W hW => by have hcell := (by have h := rf_log HAT.out (HRW.out W hW); rw [HAB.out] at h; exact h : W.cell? ⟨w.heap.size, 35, none⟩ = some (.slice (some ⟨b, o, none⟩) S.nl S.cl)); go_simp⟩) (by assumption) ?_
              simp only [Act.put, List.setIfInBounds_toArray, List.set_cons_zero, List.set_cons_succ]
              refine wpAnyH_take (i := 3) (oi := ⟨some 52, .move (.tmp 6), _, _, _, _⟩) (v := (.int .i64 (i : Nat))) rfl (by kernel_rfl) (by kernel_rfl) (by kernel_rfl) (fun _ _ _ h => h) (Or.inl ⟨by rfl, fun W hW => by go_simp⟩) (by assumption) ?_
              simp only [Act.put, List.setIfInBounds_toArray, List.set_cons_zero, List.set_cons_succ]
              refine wpAnyH_take (i := 4) (oi := ⟨some 53, .indexAddr 25 (.tmp 51) (.tmp 52), _, _, _, _⟩) (v := (.pointer (some ⟨b, o + i * 67, none⟩))) rfl (by kernel_rfl) (by kernel_rfl) (by kernel_rfl) (fun _ _ _ h => h) (Or.inl ⟨by rfl, fun W hW => by go_simp⟩) (by assumption) ?_
              simp only [Act.put, List.setIfInBounds_toArray, List.set_cons_zero, List.set_cons_succ]
              refine wpAnyH_take (i := 5) (oi := ⟨some 54, .fieldAddr 52 (.tmp 53) 0, _, _, _, _⟩) (v := (.pointer (some ⟨b, o + i * 67, none⟩))) rfl (by kernel_rfl) (by kernel_rfl) (by kernel_rfl) (fun _ _ _ h => h) (Or.inl ⟨by rfl, fun W hW => by go_simp⟩) (by assumption) ?_
              simp only [Act.put, List.setIfInBounds_toArray, List.set_cons_zero, List.set_cons_succ]
              refine wpAnyH_take (i := 6) (oi := ⟨some 55, .fieldAddr 50 (.tmp 54) 2, _, _, _, _⟩) (v := (.pointer (some ⟨b, o + i * 67 + 2, none⟩))) rfl (by kernel_rfl) (by kernel_rfl) (by kernel_rfl) (fun _ _ _ h => h) (Or.inl ⟨by rfl, fun W hW => by go_simp⟩) (by assumption) ?_
              simp only [Act.put, List.setIfInBounds_toArray, List.set_cons_zero, List.set_cons_succ]
              refine wpAnyH_take (i := 7) (oi := ⟨some 56, .load 24 (.tmp 55), _, _, _, _⟩) (v := (.agg (idCells X.upd.old))) rfl (by kernel_rfl) (by kernel_rfl) (by kernel_rfl) (fun _ _ _ h => h) (Or.inl ⟨by rfl, fun W hW => exec_loadId _ rfl _ _ X.upd.old HXO.out.2.1 rfl (HEO.out W hW)⟩) (by assumption) ?_
              simp only [Act.put, List.setIfInBounds_toArray, List.set_cons_zero, List.set_cons_succ]
              refine wpAnyH_take (i := 8) (oi := ⟨some 57, .fieldAddr 27 (.tmp 1) 4, _, _, _, _⟩) (v := (.pointer (some ⟨w.heap.size, 35, none⟩))) rfl (by kernel_rfl) (by kernel_rfl) (by kernel_rfl) (fun _ _ _ h => h) (Or.inl ⟨by rfl, fun W hW => by go_simp⟩) (by assumption) ?_
              simp only [Act.put, List.setIfInBounds_toArray, List.set_cons_zero, List.set_cons_succ]
              refine wpAnyH_take (i := 9) (oi := ⟨some 58, .load 25 (.tmp 57), _, _, _, _⟩) (v := (.slice (some ⟨b, o, none⟩) S.nl S.cl)) rfl (by kernel_rfl) (by kernel_rfl) (by kernel_rfl) (fun _ _ _ h => h) (Or.inl ⟨by rfl, fun W hW => by have hcell := (by have h := rf_log HAT.out (HRW.out W hW); rw [HAB.out] at h; exact h : W.cell? ⟨w.heap.size, 35, none⟩ = some (.slice (some ⟨b, o, none⟩) S.nl S.cl)); go_simp⟩) (by assumption) ?_
              simp only [Act.put, List.setIfInBounds_toArray, List.set_cons_zero, List.set_cons_succ]
              refine wpAnyH_take (i := 10) (oi := ⟨some 59, .move (.tmp 6), _, _, _, _⟩) (v := (.int .i64 (i : Nat))) rfl (by kernel_rfl) (by kernel_rfl) (by kernel_rfl) (fun _ _ _ h => h) (Or.inl ⟨by rfl, fun W hW => by go_simp⟩) (by assumption) ?_
              simp only [Act.put, List.setIfInBounds_toArray, List.set_cons_zero, List.set_cons_succ]
              refine wpAnyH_take (i := 11) (oi := ⟨some 60, .indexAddr 25 (.tmp 58) (.tmp 59), _, _, _, _⟩) (v := (.pointer (some ⟨b, o + i * 67, none⟩))) rfl (by kernel_rfl) (by kernel_rfl) (by kernel_rfl) (fun _ _ _ h => h) (Or.inl ⟨by rfl, fun W hW => by go_simp⟩) (by assumption) ?_
              simp only [Act.put, List.setIfInBounds_toArray, List.set_cons_zero, List.set_cons_succ]
              refine wpAnyH_take (i := 12) (oi := ⟨some 61, .fieldAddr 52 (.tmp 60) 0, _, _, _, _⟩) (v := (.pointer (some ⟨b, o + i * 67, none⟩))) rfl (by kernel_rfl) (by kernel_rfl) (by kernel_rfl) (fun _ _ _ h => h) (Or.inl ⟨by rfl, fun W hW => by go_simp⟩) (by assumption) ?_
              simp only [Act.put, List.setIfInBounds_toArray, List.set_cons_zero, List.set_cons_succ]
              refine wpAnyH_take (i := 13) (oi := ⟨some 62, .fieldAddr 50 (.tmp 61) 3, _, _, _, _⟩) (v := (.pointer (some ⟨b, o + i * 67 + 34, none⟩))) rfl (by kernel_rfl) (by kernel_rfl) (by kernel_rfl) (fun _ _ _ h => h) (Or.inl ⟨by rfl, fun W hW => by go_simp⟩) (by assumption) ?_
              simp only [Act.put, List.setIfInBounds_toArray, List.set_cons_zero, List.set_cons_succ]
              refine wpAnyH_take (i := 14) (oi := ⟨some 63, .load 24 (.tmp 62), _, _, _, _⟩) (v := (.agg (idCells X.upd.new))) rfl (by kernel_rfl) (by kernel_rfl) (by kernel_rfl) (fun _ _ _ h => h) (Or.inl ⟨by rfl, fun W hW => exec_loadId _ rfl _ _ X.upd.new HXO.out.2.2 rfl (HEN.out W hW)⟩) (by assumption) ?_
              simp only [Act.put, List.setIfInBounds_toArray, List.set_cons_zero, List.set_cons_succ]
              refine wpAnyH_ready (rs := [15]) (by kernel_rfl) (by simp) ?_
              refine AllReadyH.cons (o := ⟨some 64, .buildSlice 39 2 #[(0, (.tmp 56)), (1, (.tmp 63))], _, _, _, _⟩) rfl (fun K hK => ?_) AllReadyH.nil
              refine ready_step (wp_two _ _ rfl X.upd.old X.upd.new HXO.out.2.1 HXO.out.2.2 rfl rfl ?_)
              have hb5 := (Below.refl wr.drew.heap.size wr.drew).alloc (Nat.le_refl _) (.cells (two32 X.upd.old X.upd.new) 24)
              have HB5 := Lib.hid (HBd.out.trans (hb5.mono (HSB.out _ HBd.out)))
              have HO5 := Lib.hid (HOd.out.below hb5)
              have HX5 := Lib.hid (ids_two wr.drew HXO.out.2.1 HXO.out.2.2)
              clear hb5
              generalize wr.drew.alloc (.cells (two32 X.upd.old X.upd.new) 24) = W5 at HB5 HO5 HX5 ⊢
              generalize wr.drew.heap.size = g5 at HX5 ⊢
              refine hK.out _ _ HB5.out (fun hHeld => ?_)
              clear hK K
              refine wpAnyH_ready (rs := [16]) (by kernel_rfl) (by simp) ?_
              refine AllReadyH.cons (o := ⟨some 65, .call { callee := .builtin .append, args := #[(.tmp 49), (.tmp 64)], argTypes := #[39, 39] }, _, _, _, _⟩) rfl (fun K hK => ?_) AllReadyH.nil
              refine ready_step (wp_appI _ _ rfl B1 _ _ rfl HO5.out _ 2 2 [X.upd.old, X.upd.new] rfl HX5.out (by rw [HTL2.out]; have := HNC.out; have := HLI.out; have := HI.out; omega) (HSB.out _ HB5.out) (m + 2) (by rw [HTL2.out, HM.out]) ?_)
              intro a6 c6 W6 ho6 hg6
              have HB6 := Lib.hid (HB5.out.grown hg6 (HSB.out _ HB5.out) (fun k hk => (HO5.out.lt k hk).1))
              have HO6 := Lib.hid ho6
              clear ho6 hg6
              refine hK.out _ _ HB6.out (fun hHeld => ?_)
              clear hK K
              refine wpAnyH_take (i := 17) (oi := ⟨some 3, .assign (.tmp 65), _, _, _, _⟩) (v := (.slice a6 (m + 2) c6)) rfl (by kernel_rfl) (by kernel_rfl) (by kernel_rfl) (fun _ _ _ h => h) (Or.inl ⟨by rfl, fun W hW => by go_simp⟩) (by assumption) ?_
              simp only [Act.put, List.setIfInBounds_toArray, List.set_cons_zero, List.set_cons_succ]
              refine wpAnyH_done (by kernel_rfl) ?_ _
              have HO6' : Hid (OwnI W6 B1 (.slice a6 (m + 2) c6) (r.at_ :: r.br.map (·.2) ++ r.tg.map (·.2) ++ logIds (r.log.take (i + 1)))) := Lib.hid (by rw [HTK.out]; exact HO6.out)
              go_wp2_with fail
              go_roundg (S.nl - (i + 1))
              case measure => have := HG.out; have := HI.out; omega
              case rel => exact ⟨i + 1, m + 2, a6, c6, by go_num, rfl, by have := HI.out; omega, by have := HM.out; omega, HB6, HO6'⟩
            · have HTA : Hid (OwnI wr B1 (.slice a1 m c1) (idsF r)) := Lib.hid (by
                have h := HO.out
                rw [List.take_of_length_le (by rw [HLL.out]; omega)] at h
                have e : idsF r = r.at_ :: r.br.map (·.2) ++ r.tg.map (·.2) ++ logIds r.log := by unfold idsF namedIds; rw [List.map_append]; rfl
                rw [e]; exact h)
              have hmm : m ≤ 1000000 := by omega
              have HMM := Lib.hid hmm
              have HBq := HB
              clear hg hm HO HB hmm
              go_wp2_with (first
                | ((with_reducible show wpList _ _ _ (⟨some 67, _, _, _, _, _⟩ :: _) _ _); go_must (refine wl_ex rfl (exec_zid rfl) ?_))
                | ((with_reducible show wpList _ _ _ (⟨some 68, _, _, _, _, _⟩ :: _) _ _); go_must (refine wl_one rfl _ rfl idZero len_idZero rfl ?_); have hb5 := (Below.refl wr.heap.size wr).alloc (Nat.le_refl _) (.cells (idCells idZero) 24); have HB5 := Lib.hid (HBq.out.trans (hb5.mono (HSB.out _ HBq.out))); have HO5 := Lib.hid (HTA.out.below hb5); have HX5 := Lib.hid (ids_new wr len_idZero); clear hb5; generalize wr.alloc (.cells (idCells idZero) 24) = W5 at HB5 HO5 HX5 ⊢; generalize wr.heap.size = g5 at HX5 ⊢)
                | (go_at_call 23; go_must (refine (refMinus_any a1 m c1 (idsF r) _ 1 1 [idZero] W5 HO5.out.isIds HX5.out HMM.out (by omega)).mono ?_); rintro e W7 ⟨a7, q7, c7, rfl, h7, hb7⟩; have H7 := Lib.hid h7.isIds; have HB7 := Lib.hid (HB5.out.trans (hb7.mono (HSB.out _ HB5.out))); clear h7 hb7))
              go_ret
              exact ⟨a7, q7, c7, rfl, H7.out, HBC.out _ HB7.out⟩
#print axioms refRoots_any
end Go.Proofs.YtkhcoefcifaaeaaDoor
